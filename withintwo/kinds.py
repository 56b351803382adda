"""The kinds A, D and E: their tables, roots and bases, what they hold, and the kinds of a good signed web."""

from math import factorial

from withintwo.checks import is_ranked
from withintwo.errors import BadKind
from withintwo.goodwebs import need_good, product_table, rows_of_roots
from withintwo.grids import rank_of_rows
from withintwo.tables import parts_of, table_within
from withintwo.tied import rows_over, tied_table, way_ties

# The least and the greatest rank of each letter.
RANKS = {"A": (1, 12), "D": (4, 12), "E": (6, 8)}
E_ROOTS = {6: 72, 7: 126, 8: 240}
E_BASES = {6: 51840, 7: 2903040, 8: 696729600}
# The greatest ranks of the kinds A and D that the kinds E hold.
A_IN_E = {6: 5, 7: 7, 8: 8}
D_IN_E = {6: 5, 7: 6, 8: 8}


def is_kind(thing):
    """Whether any value is a kind."""
    return is_ranked(thing, dict(RANKS))


def need_kind(thing):
    """Refuse a value that is no kind."""
    if not is_kind(thing):
        raise BadKind(thing)


def kind_ties(kind):
    """The pairs of places at which the kind table of a kind is -1."""
    letter, rank = kind
    if letter == "A":
        return way_ties(rank)
    return way_ties(rank - 1) + [(rank - 3 if letter == "D" else 2, rank - 1)]


def kind_table(kind):
    """The kind table of a kind."""
    need_kind(kind)
    return tied_table(kind[1], kind_ties(kind), -1)


def many_roots(kind):
    """The number of roots of a kind."""
    need_kind(kind)
    letter, rank = kind
    if letter == "E":
        return E_ROOTS[rank]
    return rank * (rank + 1) if letter == "A" else 2 * rank * (rank - 1)


def many_bases(kind):
    """The number of bases of a kind."""
    need_kind(kind)
    letter, rank = kind
    if letter == "E":
        return E_BASES[rank]
    return factorial(rank + 1) if letter == "A" else factorial(rank) << (rank - 1)


def two_item_rows(many, pairs):
    """The list of the rows of so many items that have a pair of items at two places, and 0 elsewhere."""
    rows = []
    for other in range(many):
        for one in range(other):
            for left, right in pairs:
                row = [0] * many
                row[one] = left
                row[other] = right
                rows.append(tuple(row))
    return rows


def e_rows(rank):
    """The list of the root rows of a kind E."""
    rows = two_item_rows(8, rows_over((-2, 2), 2))
    rows = rows + [row for row in rows_over((-1, 1), 8) if row.count(-1) % 2 == 0]
    if rank < 8:
        rows = [row for row in rows if row[7] == -row[6]]
    if rank < 7:
        rows = [row for row in rows if row[5] == row[6]]
    return rows


def root_rows(kind):
    """The ascending tuple of the root rows of a kind."""
    need_kind(kind)
    letter, rank = kind
    if letter == "A":
        rows = two_item_rows(rank + 1, [(-2, 2), (2, -2)])
    elif letter == "D":
        rows = two_item_rows(rank, rows_over((-2, 2), 2))
    else:
        rows = e_rows(rank)
    return tuple(sorted(rows))


def greatest_held(kind, letter):
    """The greatest rank with which a kind holds the kinds of a letter; 0 if it holds none of them."""
    own, rank = kind
    if own == letter:
        return rank
    if own == "E":
        return A_IN_E[rank] if letter == "A" else D_IN_E[rank]
    # Of these two only D holds another letter.
    return rank - 1 if letter == "A" else 0


def holds_kind(one, other):
    """Whether a kind holds another one."""
    need_kind(one)
    need_kind(other)
    return other[1] <= greatest_held(one, other[0])


def kind_of(table):
    """The kind of a joined good signed web."""
    rank = rank_of_rows(product_table(table), len(table))
    many = len(rows_of_roots(table))
    # No two kinds of one rank have equally many roots.
    return [kind for kind in [(letter, rank) for letter in RANKS] if is_kind(kind) and many_roots(kind) == many][0]


def kinds_of(table):
    """The tuple of the kinds of the parts."""
    need_good(table)
    return tuple([kind_of(table_within(table, part)) for part in parts_of(table)])
