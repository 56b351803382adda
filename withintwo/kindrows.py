"""The base of a joined good signed web at the places of its kind table, and rows for its places behind it."""

from withintwo.goodwebs import product_table, rows_of_roots
from withintwo.grids import dotted
from withintwo.kinds import kind_of, kind_table
from withintwo.matching import match_of
from withintwo.roots import base_among, parts_among, upper_roots

# The root rows of the places of the kind table of E8; for E7 and E6 places of the way are left out.
E_FIRST = (1, -1, -1, -1, -1, -1, -1, 1)
E_LAST = (2, 2, 0, 0, 0, 0, 0, 0)


def step_row(many, place):
    """The row of so many items that has -2 at a place and 2 at the next one."""
    row = [0] * many
    row[place] = -2
    row[place + 1] = 2
    return tuple(row)


def base_rows(kind):
    """The list of root rows of one length whose products are those of the kind table of a kind."""
    letter, rank = kind
    if letter == "A":
        return [step_row(rank + 1, place) for place in range(rank)]
    if letter == "D":
        return [step_row(rank, place) for place in range(rank - 1)] + [(0,) * (rank - 2) + (-2, -2)]
    return [E_FIRST] + [step_row(8, place) for place in range(rank - 2)] + [E_LAST]


def settled_base(uppers, rows, kind):
    """The base among all upper roots, each of its roots at its place of the kind table."""
    base = base_among(uppers)
    places = range(len(base))
    products = tuple([tuple([0 if i == j else dotted(rows[base[i]], base[j]) for j in places]) for i in places])
    # Both tables tie their places without rings and with the entry -1 alone, so no sign changes.
    names, _ = match_of(products, kind_table(kind))
    return [base[names.index(place)] for place in places]


def sum_of_rows(shares, rows):
    """The tuple of the sum of shares times rows of one length."""
    return tuple([dotted(shares, [row[at] for row in rows]) for at in range(len(rows[0]))])


def rows_of_places(table):
    """The list of root rows for the places of a joined good signed web; for A and D all items are even."""
    kind = kind_of(table)
    rows = rows_of_roots(table)
    uppers = upper_roots(rows)
    base = settled_base(uppers, rows, kind)
    steps = base_rows(kind)
    return [sum_of_rows(parts_among(uppers, base, root), steps) for root in product_table(table)]


def six_rows(table):
    """The tuple of six rows for a joined good signed web of kind E with the products of the kind table of E6."""
    kind = kind_of(table)
    rows = rows_of_roots(table)
    base = settled_base(upper_roots(rows), rows, kind)
    return tuple([rows[root] for root in base[:5] + base[-1:]])
