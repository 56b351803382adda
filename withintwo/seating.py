"""The search for seats of joined looped webs in the greatest tables."""

from withintwo.greatest import SIGN_PAIRS, S_NUMBERS, greatest
from withintwo.matching import fitting_sign
from withintwo.tables import places_joined


def seat_from(marks, order, found):
    """The places and signs for an order of joined places that go on from found; None if there are none.

    marks is the pair of the looped web and the greatest table.
    """
    table, seats = marks
    names, signs = found
    at = len(names)
    if at == len(order):
        return found
    places = list(range(len(seats)))
    if at > 0:
        # Each place of the order but the first one is tied with one ahead of it.
        elder = [k for k in range(at) if table[order[k]][order[at]] != 0][0]
        places = [place for place in places if seats[names[elder]][place] != 0 and place not in names]
    for place in places:
        sign = fitting_sign(marks, order, found, place)
        if sign != 0:
            whole = seat_from(marks, order, (names + (place,), signs + (sign,)))
            if whole is not None:
                return whole
    return None


def seat_in(table, name):
    """Any seat with a name for a joined looped web; None if there is none."""
    order = places_joined(table, 0)
    found = seat_from((table, greatest(name)), order, ((), ()))
    if found is None:
        return None
    at = [order.index(place) for place in range(len(table))]
    return (name, tuple([found[0][k] for k in at]), tuple([found[1][k] for k in at]))


def is_held(table, name):
    """Whether the greatest table with a name holds a joined looped web."""
    return seat_in(table, name) is not None


def t_names(most):
    """The list of the names T with at most so many columns."""
    return [("T", many) for many in range(3, most + 1)]


def c_names(least, most):
    """The list of the names C whose columns are from least to most."""
    return [("C", many) + signs for many in range(least, most + 1) for signs in SIGN_PAIRS]


def s_names():
    """The list of the names S."""
    return [("S",) + numbers for numbers in S_NUMBERS]


def names_on(many):
    """The names of those greatest tables of which one holds a joined looped web of so many places if it goes on."""
    return [("T", many + 2)] + c_names(many + 2, many + 2)


def seat_of(table):
    """Any seat for a joined looped web that is between."""
    many = len(table)
    # If a column or an end is free, one of names_on holds the web; else there are no more columns than places.
    for name in names_on(many) + t_names(many) + c_names(2, many) + s_names():
        seat = seat_in(table, name)
        if seat is not None:
            return seat
    return None
