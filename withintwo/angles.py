"""Angle tables: how few dimensions hold their lines, and how many lines there can be."""

from withintwo.checks import are_integers, is_headed
from withintwo.errors import BadTable
from withintwo.grids import dotted, rank_of_rows, weighed
from withintwo.ratios import lowest
from withintwo.squares import judged
from withintwo.tables import is_row_of
from withintwo.tied import number_pairs
from withintwo.writings import are_terms, do_write

MOST_LINES = 28
# For each dimension up to 7 the greatest number of lines with the angle 1/3; up to 15 it stays.
MANY_BY_THREE = (0, 1, 2, 4, 6, 10, 16, 28)


def is_angles(thing):
    """Whether any value is an angle table."""
    if not isinstance(thing, tuple) or not 1 <= len(thing) <= MOST_LINES:
        return False
    many = len(thing)
    if not all([are_integers(row) and len(row) == many for row in thing]):
        return False
    if not all([thing[i][i] == 0 for i in range(many)]):
        return False
    return all([thing[i][j] == thing[j][i] and thing[i][j] in (1, -1) for i in range(many) for j in range(i)])


def need_angles(thing):
    """Refuse a value that is no angle table."""
    if not is_angles(thing):
        raise BadTable(thing)


def judge_lines(table, a):
    """Any certificate that an angle table is, or is not, that of lines with the angle 1 / a."""
    need_angles(table)
    word, told = judged(table, (-a, 1), 1, "low")
    return ("lines" if word == "squares" else word, told)


def are_line_terms(table, a, thing):
    """Whether any value is a tuple of terms with independent rows and shares above 0 that write a table at -a."""
    if not are_terms(table, thing) or len(thing) > len(table) or not all([term[0][0] > 0 for term in thing]):
        return False
    return do_write(table, (-a, 1), thing) and rank_of_rows([term[1] for term in thing], len(table)) == len(thing)


def lines_hold(table, a, thing):
    """Whether any value is a certificate that an angle table is, or is not, that of lines with the angle 1 / a."""
    need_angles(table)
    if is_headed(thing, "lines", 2):
        return are_line_terms(table, a, thing[1])
    if not is_headed(thing, "low", 2) or not is_row_of(table, thing[1]):
        return False
    return weighed(table, thing[1]) < -a * dotted(thing[1], thing[1])


def least_dimension(table, a):
    """The least dimension of an angle table; None if it is not never below -a."""
    need_angles(table)
    word, told = judged(table, (-a, 1), 1, "low")
    return None if word == "low" else len(told)


def sum_bound(d, a):
    """The fraction of the bound by sums; None if a a is not above d."""
    return lowest(d * (a * a - 1), a * a - d) if a * a > d else None


def most_lines(d):
    """The greatest number of lines with the angle 1/3 in so many dimensions."""
    if d < len(MANY_BY_THREE):
        return MANY_BY_THREE[d]
    return max(MANY_BY_THREE[-1], 2 * (d - 1))


def pairs_for(d):
    """The list of pairs of numbers from 0 to 7 that stand for most lines in so many dimensions, 15 at most."""
    if d < 4:
        return [(0, 1), (2, 3), (4, 5), (6, 7)][:MANY_BY_THREE[d]]
    if d < 6:
        return number_pairs(d)
    # The pairs of six numbers, and that of the other two, are those whose rows, as below, have equal last items.
    return number_pairs(6) + [(6, 7)] if d == 6 else number_pairs(8)


def most_table(d):
    """Any angle table with most lines with the angle 1/3 in so many dimensions, 15 at most."""
    # A pair stands for the row of eight integers, 3 at its numbers and -1 elsewhere. The square of such rows
    # is 24, the product of two is 8 if the pairs have a number in common, and -8 otherwise.
    pairs = pairs_for(d)
    rows = []
    for one in pairs:
        signs = [1 if one[0] in other or one[1] in other else -1 for other in pairs]
        rows.append(tuple([0 if other == one else sign for other, sign in zip(pairs, signs)]))
    return tuple(rows)
