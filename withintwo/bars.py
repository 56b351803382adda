"""The nine bars, and the shortest lot within which a web is one of them."""

from itertools import combinations

from withintwo.matching import match_of
from withintwo.needs import need_web
from withintwo.tables import table_within
from withintwo.tied import tied_table

# For each bar its number of places and its ties.
BARS = (
    (4, "03 13 23"),
    (5, "01 02 13 14 23 24 34"),
    (5, "02 03 04 12 13 14 23 24 34"),
    (6, "02 13 24 25 34 35 45"),
    (6, "01 02 13 24 25 34 35 45"),
    (6, "01 14 15 23 24 25 34 35 45"),
    (6, "02 04 13 15 24 25 34 35 45"),
    (6, "01 02 05 13 15 24 25 34 35 45"),
    (6, "01 04 05 14 15 23 24 25 34 35 45"),
)


def nine_bars():
    """The tuple of the nine bars."""
    return tuple([tied_table(many, [(int(tie[0]), int(tie[1])) for tie in ties.split()], 1) for many, ties in BARS])


def places_of(web):
    """The lot of all places of a web."""
    return tuple(range(len(web)))


def degrees_within(web, lot):
    """The ascending tuple of the numbers of neighbours in the web within a lot."""
    return tuple(sorted([sum([web[one][other] for other in lot]) for one in lot]))


def bars_by_degrees():
    """A dict from the numbers of neighbours in a bar to the list of all pairs of its number and a bar with these."""
    found = {}
    for number, bar in enumerate(nine_bars()):
        found.setdefault(degrees_within(bar, places_of(bar)), []).append((number, bar))
    return found


def number_within(web, lot, bars):
    """The number of the bar which the web within a lot is; None if it is no bar."""
    for number, bar in bars.get(degrees_within(web, lot), []):
        if match_of(bar, table_within(web, lot)) is not None:
            return number
    return None


def bar_number(web):
    """The number of the bar which a web is; None if it is no bar."""
    need_web(web)
    return number_within(web, places_of(web), bars_by_degrees())


def first_bar(web):
    """The first of the shortest lots within which a web is a bar; None for a line web."""
    need_web(web)
    bars = bars_by_degrees()
    for many in range(4, 7):
        for lot in combinations(range(len(web)), many):
            if number_within(web, lot, bars) is not None:
                return lot
    return None
