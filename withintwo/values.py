"""The values of a table: how many there are where, which are integers, and the rows kept with them."""

from withintwo.grids import first_of, powers_of, zero_rows
from withintwo.ratios import need_fraction
from withintwo.tables import image_of, is_row_of, need_place, need_table
from withintwo.valuepolys import changes_among, moved_tops, value_poly
from withintwo.writings import less_on_diagonal


def counts_at(poly, number):
    """How many roots of a polynomial, all of whose roots are real, are below, at and above a fraction."""
    tops = moved_tops(poly, number)
    at = first_of(tops)
    above = changes_among(tops)
    return (len(poly) - 1 - at - above, at, above)


def many_values(table, number):
    """How many values are below, at and above a fraction."""
    need_table(table)
    need_fraction(number)
    return counts_at(value_poly(table), number)


def root_at(poly, bound, place, bits):
    """The greatest integer m with m / 2 ** bits not above the root with a number, all being at most bound from 0."""
    low = -bound << bits
    high = (bound << bits) + 1
    # The root is never below low, always below high, both counted in these small steps.
    while high - low > 1:
        middle = (low + high) // 2
        if counts_at(poly, (middle, 1 << bits))[0] <= place:
            low = middle
        else:
            high = middle
    return low


def bound_of(table):
    """An integer from which no value of a table, in its size, is above."""
    return max([sum([abs(entry) for entry in row]) for row in table])


def value_at(table, place, bits):
    """The greatest integer m such that m / 2 ** bits is not above the value with the number place."""
    need_table(table)
    need_place(table, place)
    return root_at(value_poly(table), bound_of(table), place, bits)


def whole_values(table):
    """The ascending tuple of pairs of an integer that is a value and how many values it is."""
    need_table(table)
    poly = value_poly(table)
    bound = bound_of(table)
    found = []
    place = 0
    while place < len(table):
        whole = root_at(poly, bound, place, 0)
        below, at, _ = counts_at(poly, (whole, 1))
        # Beyond these places the value is above its whole part, though others may be equal to that.
        if place < below + at:
            found.append((whole, at))
            place = below + at
        else:
            place += 1
    return tuple(found)


def power_sum(table, k):
    """The sum of the k-th powers of all values."""
    need_table(table)
    if k == 0:
        return len(table)
    power = powers_of(table, k)[k - 1]
    return sum([power[place][place] for place in range(len(table))])


def kept_base(table, whole):
    """The kept base of a table and an integer."""
    need_table(table)
    return tuple([tuple(row) for row in zero_rows(less_on_diagonal(table, (whole, 1)), len(table))])


def is_kept(table, whole, thing):
    """Whether any value is a row kept by a table with an integer."""
    need_table(table)
    if not is_row_of(table, thing) or first_of(thing) is None:
        return False
    return image_of(table, thing) == tuple([whole * item for item in thing])
