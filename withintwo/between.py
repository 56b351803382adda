"""Looped webs between -2 and 2: seats in the greatest tables, or a row beyond, and what can still come."""

from withintwo.beyonds import beyond_row, is_beyond_row, refuse_beyond
from withintwo.checks import are_integers, is_headed
from withintwo.errors import BadRow, BadWeb, NotJoined
from withintwo.greatest import is_seat
from withintwo.letting import is_let_with, measure_of
from withintwo.needs import need_looped_web
from withintwo.seating import c_names, is_held, names_on, s_names, seat_of, t_names
from withintwo.tables import MOST_PLACES, is_joined, opposite, parts_of, table_within
from withintwo.tied import rows_over


def is_between(table):
    """Whether a looped web is between."""
    need_looped_web(table)
    return beyond_row(table) is None


def judge_between(table):
    """Any certificate that a looped web is, or is not, between."""
    need_looped_web(table)
    row = beyond_row(table)
    if row is not None:
        return ("beyond", row)
    return ("placed", tuple([seat_of(table_within(table, part)) for part in parts_of(table)]))


def are_seats(table, thing):
    """Whether any value is a tuple with a seat for each part of a looped web."""
    parts = parts_of(table)
    if not isinstance(thing, tuple) or len(thing) != len(parts):
        return False
    return all([is_seat(table_within(table, part), seat) for part, seat in zip(parts, thing)])


def between_holds(table, thing):
    """Whether any value is a certificate that a looped web is, or is not, between."""
    need_looped_web(table)
    if is_headed(thing, "placed", 2):
        return are_seats(table, thing[1])
    return is_headed(thing, "beyond", 2) and is_beyond_row(table, thing[1])


def need_joined_between(table):
    """Refuse a value that is no looped web, then one that is not joined, then one that is not between."""
    need_looped_web(table)
    if not is_joined(table):
        raise NotJoined()
    refuse_beyond(table)


def holders(table):
    """The ascending tuple of the names of the greatest tables, those of T and C not too great, that hold a web."""
    need_joined_between(table)
    most = len(table) + 1
    return tuple(sorted([name for name in t_names(most) + c_names(2, most) + s_names() if is_held(table, name)]))


def does_reach_on(table):
    """Whether a joined looped web that is between goes on."""
    need_joined_between(table)
    return any([is_held(table, name) for name in names_on(len(table))])


def places_between(table):
    """The ascending tuple of all c that a looped web which is between lets."""
    need_looped_web(table)
    refuse_beyond(table)
    low = measure_of(table)
    # Never above 2 is what never below -2 is for the opposite.
    high = measure_of(opposite(table))
    rows = [(c[:-1], c[-1]) for c in rows_over((-1, 0, 1), len(table) + 1)]
    return tuple([c + (loop,) for c, loop in rows if is_let_with(low, c, loop) and is_let_with(high, c, -loop)])


def need_looped_entries(table, c):
    """Refuse a value that is no tuple of entries -1, 0 or 1 with the places of a looped web and itself."""
    if not are_integers(c) or len(c) != len(table) + 1 or not all([-1 <= item <= 1 for item in c]):
        raise BadRow(c)


def with_looped_place(table, c):
    """The looped web with the place c."""
    need_looped_web(table)
    need_looped_entries(table, c)
    if len(table) == MOST_PLACES:
        raise BadWeb(table)
    return tuple([row + (item,) for row, item in zip(table, c)] + [c])
