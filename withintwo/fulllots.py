"""The ways to part the ties of a web into full lots, each place being in at most two of them."""

from withintwo.tables import neighbours, parts_of, places_joined


def is_tied_to_all(web, place, lot):
    """Whether a place is tied to all places of a lot."""
    return all([web[place][other] == 1 for other in lot])


def two_sides(web, places):
    """The list of all ways to part places into two full sides, the second of which may be empty."""
    ways = [([], [])]
    for place in places:
        longer = []
        for left, right in ways:
            if is_tied_to_all(web, place, left):
                longer.append((left + [place], right))
            # The first place stands on the left, so that no way comes up twice.
            if left != [] and is_tied_to_all(web, place, right):
                longer.append((left, right + [place]))
        ways = longer
    return ways


def do_meet_twice(one, other):
    """Whether two lots have more than one place in common."""
    return len([place for place in one if place in other]) > 1


def lots_from(web, start, sides):
    """The full lots of a part when the neighbours of one place are parted into sides; None if that does not go on."""
    lots = [tuple(sorted([start] + side)) for side in sides if side != []]
    # A place that is reached is in a lot already, and all other neighbours of it are in one more.
    for place in places_joined(web, start)[1:]:
        own = [lot for lot in lots if place in lot]
        rest = [other for other in neighbours(web, place) if not any([other in lot for lot in own])]
        if len(own) + min(1, len(rest)) > 2:
            return None
        if rest != []:
            lot = tuple(sorted([place] + rest))
            if not all([is_tied_to_all(web, rest[at], rest[:at]) for at in range(len(rest))]):
                return None
            if any([do_meet_twice(lot, other) for other in lots]):
                return None
            lots.append(lot)
    return lots


def ways_of_part(web, start):
    """The list of all ways to part the ties of the part of a place into full lots, each a list of these."""
    found = [lots_from(web, start, sides) for sides in two_sides(web, neighbours(web, start))]
    return [lots for lots in found if lots is not None]


def own_points(lots, many):
    """The list of the lots of one place for the points that places in fewer than two lots have of their own."""
    owned = []
    for place in range(many):
        owned = owned + [(place,)] * (2 - len([lot for lot in lots if place in lot]))
    return owned


def ways_of(web):
    """The list of all ascending lists of the lots of points that tell a web."""
    ways = [[]]
    for part in parts_of(web):
        more = ways_of_part(web, part[0])
        ways = [lots + other for lots in ways for other in more]
    return [sorted(lots + own_points(lots, len(web))) for lots in ways]
