"""Round polynomials, ring polynomials, and the rounds of the looped webs that are between."""

from withintwo.beyonds import refuse_beyond
from withintwo.checks import is_integer
from withintwo.errors import BadNumber
from withintwo.needs import need_looped_web
from withintwo.tables import need_table
from withintwo.valuepolys import value_poly

MOST_NUMBER = 100


def is_ring_number(thing):
    """Whether any value is an integer from 1 to 100."""
    return is_integer(thing) and 1 <= thing <= MOST_NUMBER


def primes_of(number):
    """The ascending list of the primes that divide a number."""
    found = []
    left = number
    for prime in range(2, number + 1):
        if left % prime == 0:
            found.append(prime)
            while left % prime == 0:
                left = left // prime
    return found


def times_step(poly, step):
    """A polynomial times t ** step - 1."""
    return [ahead - here for ahead, here in zip([0] * step + poly, poly + [0] * step)]


def divided_by_step(poly, step):
    """A polynomial divided by t ** step - 1, which leaves no rest."""
    found = []
    for at in range(len(poly) - step):
        found.append((found[at - step] if at >= step else 0) - poly[at])
    return found


def ring_poly(number):
    """The list of the coefficients of the ring polynomial with a number."""
    # It is t ** number - 1 without what the numbers number / p have, p being a prime: with those for two
    # primes in common counted back, and so on.
    steps = [(number, 1)]
    for prime in primes_of(number):
        steps = steps + [(step // prime, -sign) for step, sign in steps]
    poly = [1]
    for step, sign in steps:
        if sign == 1:
            poly = times_step(poly, step)
    for step, sign in steps:
        if sign == -1:
            poly = divided_by_step(poly, step)
    return poly


def ring_polynomial(number):
    """The ring polynomial with a number."""
    if not is_ring_number(number):
        raise BadNumber(number)
    return tuple(ring_poly(number))


def round_poly(table):
    """The list of the coefficients of the round polynomial of a table."""
    many = len(table)
    found = [0] * (2 * many + 1)
    # The powers of t * t + 1, each put where t ** many times that of t + 1 / t begins.
    power = [1]
    for at, coefficient in enumerate(value_poly(table)):
        for k in range(len(power)):
            found[many - at + k] += coefficient * power[k]
        power = [ahead + here for ahead, here in zip([0, 0] + power, power + [0, 0])]
    return found


def round_polynomial(table):
    """The round polynomial of a table."""
    need_table(table)
    return tuple(round_poly(table))


def divided(poly, by):
    """A polynomial divided by one with the leading coefficient 1; None if that leaves a rest."""
    rest = list(poly)
    found = []
    while len(rest) >= len(by):
        top = rest[-1]
        start = len(rest) - len(by)
        rest = rest[:start] + [item - top * less for item, less in zip(rest[start:-1], by)]
        found.append(top)
    return found[::-1] if all([item == 0 for item in rest]) else None


def rounds_of(table):
    """The ascending tuple, with repeats, of the rounds of a looped web that is between."""
    need_looped_web(table)
    refuse_beyond(table)
    left = round_poly(table)
    found = []
    number = 1
    while len(left) > 1:
        less = divided(left, ring_poly(number))
        if less is None:
            number += 1
        else:
            found.append(number)
            left = less
    return tuple(found)


def rounds_hold(table, thing):
    """Whether any value is a tuple of numbers whose ring polynomials multiply to the round polynomial of a table."""
    need_table(table)
    # Each ring polynomial has the degree 1 at least.
    if not isinstance(thing, tuple) or len(thing) > 2 * len(table) or not all([is_ring_number(item) for item in thing]):
        return False
    left = round_poly(table)
    for number in thing:
        left = divided(left, ring_poly(number))
        if left is None:
            return False
    return left == [1]
