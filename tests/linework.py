"""Line webs by their drawings and bars by their renamings, written apart from the program."""

import itertools

from tests.helpers import beside, within, web

TIES = ["03 13 23", "01 02 13 14 23 24 34", "02 03 04 12 13 14 23 24 34", "02 13 24 25 34 35 45", "01 02 13 24 25 34 35 45",
        "01 14 15 23 24 25 34 35 45", "02 04 13 15 24 25 34 35 45", "01 02 05 13 15 24 25 34 35 45",
        "01 04 05 14 15 23 24 25 34 35 45"]
PLACES = [4, 5, 5, 6, 6, 6, 6, 6, 6]
BARS = [web(many, [(int(a), int(b)) for a, b in ties.split()]) for many, ties in zip(PLACES, TIES)]


def renamed(table, names):
    """The table in which the place i is called names[i]."""
    places = [names.index(place) for place in range(len(table))]
    return tuple(tuple(table[i][j] for j in places) for i in places)


RENAMED = {renamed(bar, names): number for number, bar in enumerate(BARS) for names in itertools.permutations(range(len(bar)))}


def bar_number(table):
    return RENAMED.get(table)


def first_bar(table):
    """The first of the shortest lots within which a web is a bar, by looking at all."""
    for many in (4, 5, 6):
        for lot in itertools.combinations(range(len(table)), many):
            if within(table, lot) in RENAMED:
                return lot
    return None


def drawings(table):
    """All drawings whose line web a web is, with the points in the order in which they come up."""
    found = []

    def go_on(pairs, points):
        if len(pairs) == len(table):
            found.append((points, tuple(pairs)))
            return
        row = table[len(pairs)]
        for a in range(points + 1):
            for b in range(a + 1, max(points, a + 1) + 1):
                pair = (a, b)
                if pair not in pairs and all(row[at] == (a in old or b in old) for at, old in enumerate(pairs)):
                    go_on(pairs + [pair], max(points, b + 1))

    go_on([], 0)
    return found


def is_line(table):
    return drawings(table) != []


def is_bar(table):
    """The words of [5.4]."""
    if is_line(table):
        return False
    return all(is_line(within(table, lot)) for lot in itertools.combinations(range(len(table)), len(table) - 1))


def line_web(pairs):
    """The web of the ties of some pairs."""
    many = len(pairs)
    return tuple(tuple(int(i != j and bool({*pairs[i]} & {*pairs[j]})) for j in range(many)) for i in range(many))


def random_pairs(rnd, points, many):
    """So many pairs of so many points, some of which may be in no pair."""
    return rnd.sample(list(itertools.combinations(range(points), 2)), many)


def random_web(rnd, many, part):
    """A web; about part of a hundred pairs are tied."""
    return web(many, [pair for pair in itertools.combinations(range(many), 2) if rnd.randrange(100) < part])


def shuffled(rnd, table):
    return renamed(table, rnd.sample(range(len(table)), len(table)))


def webs_with_bars(rnd):
    """Webs of up to twelve places that have a bar within them beside, or tied to, line webs."""
    found = []
    for bar in BARS:
        found.append(bar)
        for more in (1, 3, 12 - len(bar)):
            pairs = random_pairs(rnd, 6, more)
            found.append(shuffled(rnd, beside(bar, line_web(pairs))))
            table = [list(row) for row in beside(bar, line_web(pairs))]
            for _ in range(more):
                i, j = rnd.randrange(len(bar)), len(bar) + rnd.randrange(more)
                table[i][j] = table[j][i] = 1
            found.append(shuffled(rnd, tuple(tuple(row) for row in table)))
    return found
