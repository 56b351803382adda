"""Which rows of entries a further place can have, so that a table stays never below -2."""

from math import lcm

from withintwo.goodwebs import BOUND
from withintwo.grids import dotted
from withintwo.tables import square_of, weight_of
from withintwo.values import kept_base
from withintwo.writings import row_behind, steps_of


def measure_of(table):
    """What is needed of a table never below -2 to tell which places it lets: zero rows, crossing rows, their shares.

    The table, with 2 added to each loop, weighs zero rows with 0. Crossing rows have the product 0 with
    one another, and each row is a sum of fractions times rows of both. Behind the shares stands what
    their sum is measured with.
    """
    steps = steps_of(table, BOUND)
    crossing = [row_behind(steps[:at + 1]) for at in range(len(steps))]
    weights = [weight_of(table, row) + 2 * square_of(row) for row in crossing]
    common = 1
    for weight in weights:
        common = lcm(common, weight)
    return (kept_base(table, -2), crossing, [common // weight for weight in weights], common)


def is_let_with(measure, c, loop):
    """Whether a table with a measure stays never below -2 with a place of such entries and such a loop."""
    zeros, crossing, shares, common = measure
    if any([dotted(row, c) != 0 for row in zeros]):
        return False
    # With the products c the nearest that the rows come to the new one weighs this sum: its square is 2 + loop.
    return sum([share * dotted(row, c) ** 2 for row, share in zip(crossing, shares)]) <= (2 + loop) * common


def is_let(measure, c):
    """Whether a good signed web with a measure lets a tuple of entries."""
    return is_let_with(measure, c, 0)
