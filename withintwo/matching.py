"""A turning that leads one table to another one, looked for part by part."""

from withintwo.grids import powers_of
from withintwo.tables import parts_of, places_joined


def marks_of(table, numbers):
    """A table with a number for each two places, by what the powers of the table tell of them.

    A turning that leads a table to another one leads its powers to those of the other one. So the
    entries of two places in all powers stay as they are, or all change their signs. Equal such
    entries get equal numbers, opposite ones opposite numbers, and only zeros get the number 0.
    """
    powers = powers_of(table, len(table))
    marks = []
    for i in range(len(table)):
        row = []
        for j in range(len(table)):
            row.append(number_of([power[i][j] for power in powers], numbers))
        marks.append(row)
    return marks


def number_of(told, numbers):
    """The number of what is told of two places; numbers is a dict that gets those that are new."""
    signs = [item for item in told if item != 0]
    if signs == []:
        return 0
    sign = -1 if signs[0] < 0 else 1
    return sign * numbers.setdefault(tuple([sign * item for item in told]), len(numbers) + 1)


def colours_of(marks, part):
    """The sorted tuple of what the marks tell of each place of a part without regard to signs."""
    return sorted([colour_of(marks, part, place) for place in part])


def colour_of(marks, part, place):
    """What the marks tell of a place without regard to signs."""
    return (marks[place][place], tuple(sorted([abs(marks[place][other]) for other in part])))


def fitting_sign(marks, order, found, place):
    """The sign with which a place can stand for the next one of the order; 0 if it cannot.

    found is the pair of the tuples of places and signs for those ahead of it.
    """
    one, other = marks
    names, signs = found
    new = order[len(names)]
    if one[new][new] != other[place][place]:
        return 0
    if names == ():
        return 1
    fitting = 0
    for elder, name, sign in zip(order, names, signs):
        here = sign * one[new][elder]
        there = other[place][name]
        if abs(here) != abs(there):
            return 0
        if here != 0:
            needed = 1 if here == there else -1
            if fitting == -needed:
                return 0
            fitting = needed
    return fitting


def match_within(marks, order, places, found):
    """The places and signs for an order of joined places that go on from found; None if there are none."""
    names, signs = found
    if len(names) == len(order):
        return found
    for place in places:
        if place not in names:
            sign = fitting_sign(marks, order, found, place)
            if sign != 0:
                whole = match_within(marks, order, places, (names + (place,), signs + (sign,)))
                if whole is not None:
                    return whole
    return None


def match_of_part(one, marks, part, free):
    """The first of some parts of the other table to which a part can be led, its order and the match."""
    order = places_joined(one, part[0])
    colours = colours_of(marks[0], part)
    for places in free:
        if colours_of(marks[1], places) == colours:
            found = match_within(marks, order, places, ((), ()))
            if found is not None:
                return (places, order, found)
    return None


def match_of(one, other):
    """Any turning that leads one table to the other one; None if there is none."""
    if len(one) != len(other):
        return None
    numbers = {}
    marks = (marks_of(one, numbers), marks_of(other, numbers))
    names = [0] * len(one)
    signs = [1] * len(one)
    free = list(parts_of(other))
    for part in parts_of(one):
        # Parts that are led to one part are led to one another: whichever fits can be taken at once.
        fit = match_of_part(one, marks, part, free)
        if fit is None:
            return None
        places, order, found = fit
        free.remove(places)
        for place, name, sign in zip(order, found[0], found[1]):
            names[place] = name
            signs[place] = sign
    return (tuple(names), tuple(signs))
