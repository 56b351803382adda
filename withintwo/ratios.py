"""Fractions: which values they are, and their form without a common divisor."""

from math import gcd

from withintwo.checks import are_integers
from withintwo.errors import BadFraction


def is_fraction(thing):
    """Whether any value is a fraction."""
    return are_integers(thing) and len(thing) == 2 and thing[1] >= 1


def need_fraction(thing):
    """Refuse a value that is no fraction."""
    if not is_fraction(thing):
        raise BadFraction(thing)


def lowest(top, bottom):
    """The fraction of two integers, the second one not 0, without a common divisor."""
    common = gcd(top, bottom)
    if bottom < 0:
        common = -common
    return (top // common, bottom // common)
