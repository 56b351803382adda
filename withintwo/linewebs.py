"""Drawings and the webs of their ties, and the certificates that a web is, or is not, such a web."""

from withintwo.bars import bar_number, first_bar
from withintwo.checks import are_integers, is_headed, is_integer
from withintwo.errors import BadTies, NotLine
from withintwo.fulllots import ways_of
from withintwo.grids import rank_of_rows
from withintwo.needs import need_web
from withintwo.tables import MOST_PLACES, is_lot_of, table_within

MOST_POINTS = 24


def is_pair(many, thing):
    """Whether any value is a pair of so many points, the first one below the second one."""
    return are_integers(thing) and len(thing) == 2 and 0 <= thing[0] < thing[1] < many


def is_drawing(thing):
    """Whether any value is a drawing."""
    if not isinstance(thing, tuple) or len(thing) != 2:
        return False
    many, ties = thing
    if not is_integer(many) or not 2 <= many <= MOST_POINTS or not isinstance(ties, tuple):
        return False
    if not 1 <= len(ties) <= MOST_PLACES or not all([is_pair(many, pair) for pair in ties]):
        return False
    if len({pair: True for pair in ties}) < len(ties):
        return False
    return all([any([point in pair for pair in ties]) for point in range(many)])


def need_drawing(thing):
    """Refuse a value that is no drawing."""
    if not is_drawing(thing):
        raise BadTies(thing)


def do_share(one, other):
    """Whether two lots, or two pairs, have an item in common."""
    return any([item in other for item in one])


def web_of_ties(ties):
    """The web in which pairs with a point in common are tied."""
    places = range(len(ties))
    return tuple([tuple([1 if i != j and do_share(ties[i], ties[j]) else 0 for j in places]) for i in places])


def line_web(drawing):
    """The line web of a drawing."""
    need_drawing(drawing)
    return web_of_ties(drawing[1])


def drawing_of(lots, many):
    """The drawing with these lots of its points and so many pairs."""
    pairs = [tuple([point for point, lot in enumerate(lots) if place in lot]) for place in range(many)]
    return (len(lots), tuple(pairs))


def plain_drawing(drawing):
    """The plain drawing that comes by renaming the points."""
    need_drawing(drawing)
    many, ties = drawing
    lots = [tuple([place for place, pair in enumerate(ties) if point in pair]) for point in range(many)]
    return drawing_of(sorted(lots), len(ties))


def point_rows(drawing):
    """The point rows of a drawing."""
    need_drawing(drawing)
    many, ties = drawing
    return tuple([tuple([2 if point in pair else 0 for point in range(many)]) for pair in ties])


def many_low(drawing):
    """The number of independent rows that the line web of a drawing keeps with -2."""
    need_drawing(drawing)
    # The line web keeps a row with -2 just if the sum of its integers times the point rows is 0.
    return len(drawing[1]) - rank_of_rows(point_rows(drawing), drawing[0])


def is_line_web(web):
    """Whether a web is a line web."""
    need_web(web)
    return ways_of(web) != []


def tellings(web):
    """The ascending tuple of the tellings of a web."""
    need_web(web)
    return tuple(sorted([drawing_of(lots, len(web)) for lots in ways_of(web)]))


def judge_lines(web):
    """Any certificate that a web is, or is not, a line web."""
    need_web(web)
    ways = ways_of(web)
    return ("bar", first_bar(web)) if ways == [] else ("drawing",) + drawing_of(ways[0], len(web))


def lines_hold(web, thing):
    """Whether any value is a certificate that a web is, or is not, a line web."""
    need_web(web)
    if is_headed(thing, "drawing", 3):
        return is_drawing(thing[1:]) and web_of_ties(thing[2]) == web
    if not is_headed(thing, "bar", 2) or not is_lot_of(web, thing[1]) or thing[1] == ():
        return False
    return bar_number(table_within(web, thing[1])) is not None


def comings_among(lots, many):
    """The list of the entries of a further pair with so many pairs, given the lots of all points."""
    # Points that are new are in no pair yet.
    points = lots + [(), ()]
    found = []
    for other in range(len(points)):
        for one in range(other):
            if not do_share(points[one], points[other]):
                found.append(tuple([1 if place in points[one] + points[other] else 0 for place in range(many)]))
    return found


def line_comings(web):
    """The ascending tuple of all line comings of a line web."""
    need_web(web)
    ways = ways_of(web)
    if ways == []:
        raise NotLine(first_bar(web))
    return tuple(sorted({coming for lots in ways for coming in comings_among(lots, len(web))}))
