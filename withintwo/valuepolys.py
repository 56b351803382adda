"""The polynomial of a table, and polynomials that are moved by a fraction."""

from withintwo.grids import times
from withintwo.ratios import lowest, need_fraction
from withintwo.tables import need_table


def value_poly(table):
    """The polynomial of a table, its coefficients with the lowest power first."""
    need_table(table)
    places = range(len(table))
    falling = [1]
    # The way of U. Leverrier and D. Faddeev: each division by k leaves no rest.
    held = [[1 if i == j else 0 for j in places] for i in places]
    for k in range(1, len(table) + 1):
        held = times(held, table)
        falling.append(-sum([held[i][i] for i in places]) // k)
        held = [[held[i][j] + (falling[k] if i == j else 0) for j in places] for i in places]
    return tuple(falling[::-1])


def poly_value(poly, number):
    """The value of a polynomial at a fraction, as a fraction."""
    need_fraction(number)
    top, bottom = 0, 1
    for coefficient in poly[::-1]:
        top = top * number[0] + coefficient * bottom * number[1]
        bottom = bottom * number[1]
    return lowest(top, bottom)


def moved_tops(poly, number):
    """The coefficients of a polynomial moved by a fraction, each times a power of its bottom.

    That at position k is multiplied by the bottom as often as there are positions behind k.
    """
    top, bottom = number
    tops = []
    share = 1
    for coefficient in poly[::-1]:
        tops = [coefficient * share] + tops
        share = share * bottom
    # What is now a polynomial in the letter times the bottom is moved by the top.
    many = len(poly)
    for start in range(many - 1):
        for step in range(many - 1 - start):
            at = many - 2 - step
            tops[at] = tops[at] + top * tops[at + 1]
    return tops


def moved_poly(poly, number):
    """The coefficients of a polynomial moved by a fraction, as fractions."""
    need_fraction(number)
    moved = []
    share = 1
    for top in moved_tops(poly, number)[::-1]:
        moved.append(lowest(top, share))
        share = share * number[1]
    return tuple(moved[::-1])


def changes_among(tops):
    """How many neighbours in a list of integers, those that are 0 being left out, have unlike signs."""
    signs = [top > 0 for top in tops if top != 0]
    return len([sign for sign, after in zip(signs, signs[1:]) if sign != after])


def sign_changes(numbers):
    """How many neighbours in a tuple of fractions, those that are 0 being left out, have unlike signs."""
    for number in numbers:
        need_fraction(number)
    return changes_among([number[0] for number in numbers])
