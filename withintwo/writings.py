"""Terms that write a table at a fraction, found step by step, and the check that terms do."""

from math import lcm

from withintwo.grids import applied, content_of, dotted, first_of, primitive
from withintwo.ratios import is_fraction, lowest
from withintwo.tables import is_row_of


def less_on_diagonal(table, number):
    """A table times the bottom of a fraction, less its top on the diagonal."""
    top, bottom = number
    places = range(len(table))
    return [[bottom * table[i][j] - (top if i == j else 0) for j in places] for i in places]


def unit_row(many, place):
    """The list of so many integers that is 1 at a place and 0 elsewhere."""
    row = [0] * many
    row[place] = 1
    return row


def lead_of(grid):
    """A row that a symmetric grid of integers does not weigh with 0; None if it weighs all with 0."""
    many = len(grid)
    for place in range(many):
        if grid[place][place] != 0:
            return unit_row(many, place)
    for place in range(many):
        other = first_of(grid[place])
        if other is not None:
            lead = unit_row(many, place)
            lead[other] = 1
            return lead
    return None


def grid_less(grid, image, worth):
    """A grid times a worth, less the products of an image; with what its integers were divided by."""
    lines = [[worth * entry - left * right for entry, right in zip(line, image)] for line, left in zip(grid, image)]
    # Without this division the integers would double their lengths at each step.
    common = max(1, content_of([content_of(line) for line in lines]))
    return ([[entry // common for entry in line] for line in lines], common)


def steps_of(table, number):
    """The list of steps (share, row, lead) whose pairs (share, row) write a table at a fraction.

    What the steps ahead of it leave of the table weighs the lead of a step with a number that has
    the sign of the share, and its images of the leads of those steps are 0.
    """
    grid = less_on_diagonal(table, number)
    share = (1, number[1])
    steps = []
    lead = lead_of(grid)
    while lead is not None:
        image = applied(grid, lead)
        worth = dotted(image, lead)
        common = content_of(image)
        row = tuple([item // common for item in image])
        steps.append((lowest(share[0] * common * common, share[1] * worth), row, lead))
        grid, divided = grid_less(grid, image, worth)
        share = lowest(share[0] * divided, share[1] * worth)
        lead = lead_of(grid)
    return steps


def row_behind(steps):
    """A row that has the product 0 with the rows of all steps but the last one, and the last lead in it.

    So the table, less the fraction, weighs it with the sign of the share of the last step.
    """
    found = steps[-1][2]
    for _, row, lead in steps[-2::-1]:
        # The lead of a step has the product 0 with the rows of all later steps: they stay settled.
        whole = dotted(row, lead)
        less = dotted(row, found)
        found = primitive([whole * item - less * other for item, other in zip(found, lead)])
    return tuple(found)


def are_terms(table, thing):
    """Whether any value is a tuple of terms for the places of a table."""
    return isinstance(thing, tuple) and all([is_term(table, term) for term in thing])


def is_term(table, thing):
    """Whether any value is a term for the places of a table."""
    if not isinstance(thing, tuple) or len(thing) != 2:
        return False
    share, row = thing
    if not is_fraction(share) or share[0] == 0:
        return False
    return is_row_of(table, row) and first_of(row) is not None


def do_write(table, number, terms):
    """Whether terms write a table at a fraction."""
    common = 1
    for term in terms:
        common = lcm(common, term[0][1])
    tops = [term[0][0] * (common // term[0][1]) for term in terms]
    wanted = less_on_diagonal(table, number)
    for i in range(len(table)):
        for j in range(i + 1):
            total = sum([top * (term[1][i] * term[1][j]) for top, term in zip(tops, terms)])
            if number[1] * total != common * wanted[i][j]:
                return False
    return True
