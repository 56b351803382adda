"""Sums of products over lists and tuples of integers: powers of tables, and rows that depend on one another."""

from math import gcd, lcm


def dotted(one, other):
    """The sum of the products of the integers of two rows."""
    return sum([left * right for left, right in zip(one, other)])


def applied(rows, row):
    """The list of the sums of products of each of some rows with a row."""
    return [dotted(line, row) for line in rows]


def weighed(table, row):
    """What a table, of however many places, weighs a row."""
    return dotted(row, applied(table, row))


def times(rows, table):
    """Some rows times a symmetric table, whose columns are its rows."""
    return [applied(table, row) for row in rows]


def powers_of(table, many):
    """The list of so many powers of a table, from the first one on."""
    powers = [[list(row) for row in table]]
    while len(powers) < many:
        powers.append(times(powers[-1], table))
    return powers


def content_of(row):
    """The greatest integer that divides all integers of a row; 0 if they are all 0."""
    common = 0
    for item in row:
        common = gcd(common, item)
    return common


def primitive(row):
    """The list of the integers of a row, divided by the greatest integer that divides them all."""
    common = content_of(row)
    return [item // common for item in row] if common > 1 else list(row)


def first_of(row):
    """The position of the first integer of a row that is not 0; None if there is none."""
    for at in range(len(row)):
        if row[at] != 0:
            return at
    return None


def cleared(row, pivot, column):
    """A row less so much of the pivot that it is 0 at a column; the pivot is above 0 there."""
    if row[column] == 0:
        return row
    return primitive([pivot[column] * item - row[column] * less for item, less in zip(row, pivot)])


def reduced_rows(rows, many):
    """The rows of which the same rows are sums as of some rows of so many integers.

    Each is primitive, the first integer of each that is not 0 is above 0, the positions of these
    ascend, and all other rows are 0 there. There is just one list of such rows.
    """
    left = [primitive(row) for row in rows]
    found = []
    for column in range(many):
        at = first_of([row[column] for row in left])
        if at is not None:
            pivot = left[at] if left[at][column] > 0 else [-item for item in left[at]]
            left = [cleared(row, pivot, column) for row in left[:at] + left[at + 1:]]
            found = [cleared(row, pivot, column) for row in found] + [pivot]
    return found


def rank_of_rows(rows, many):
    """How many independent rows there are among some rows of so many integers."""
    return len(reduced_rows(rows, many))


def zero_rows(rows, many):
    """The reduced rows of those whose sums of products with each of some rows are 0."""
    reduced = reduced_rows(rows, many)
    firsts = [first_of(row) for row in reduced]
    common = 1
    for row, first in zip(reduced, firsts):
        common = lcm(common, row[first])
    found = []
    for free in range(many):
        if free not in firsts:
            told = [0] * many
            told[free] = common
            for row, first in zip(reduced, firsts):
                told[first] = -row[free] * (common // row[first])
            found.append(told)
    return reduced_rows(found, many)
