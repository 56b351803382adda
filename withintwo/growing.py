"""Places that can still come to a good signed web, and whether it goes on without end."""

from withintwo.checks import is_headed
from withintwo.errors import BadRow, BadWeb, NotJoined
from withintwo.goodwebs import need_good, product_table
from withintwo.grids import dotted
from withintwo.kindrows import rows_of_places, six_rows
from withintwo.kinds import kind_of, kind_table
from withintwo.letting import is_let, measure_of
from withintwo.lows import are_rows_for
from withintwo.needs import need_signed_web
from withintwo.tables import MOST_PLACES, image_of, is_joined, is_row_of
from withintwo.tied import rows_over

SIX = ("E", 6)


def need_entries(table, c):
    """Refuse a value that is no tuple of entries -1, 0 or 1 with the places of a signed web."""
    if not is_row_of(table, c) or not all([-1 <= item <= 1 for item in c]):
        raise BadRow(c)


def with_place(table, c):
    """The signed web with the place c."""
    need_signed_web(table)
    need_entries(table, c)
    if len(table) == MOST_PLACES:
        raise BadWeb(table)
    return tuple([row + (item,) for row, item in zip(table, c)] + [c + (0,)])


def places_let(table):
    """The ascending tuple of all c that a good signed web lets."""
    need_good(table)
    measure = measure_of(table)
    return tuple([c for c in rows_over((-1, 0, 1), len(table)) if is_let(measure, c)])


def does_let(table, c):
    """Whether a good signed web lets c."""
    need_good(table)
    need_entries(table, c)
    return is_let(measure_of(table), c)


def need_joined_good(table):
    """Refuse a value that is no signed web, then one that is not good, then one that is not joined."""
    need_good(table)
    if not is_joined(table):
        raise NotJoined()


def judge_going(table):
    """Any certificate that a joined good signed web goes on, or that it does not."""
    need_joined_good(table)
    if kind_of(table)[0] == "E":
        return ("six", six_rows(table))
    return ("plain", tuple(rows_of_places(table)))


def are_plain_rows(table, thing):
    """Whether any value is a tuple of root rows of even items with the entries of a signed web as products."""
    return are_rows_for(table, thing) and all([item % 2 == 0 for row in thing for item in row])


def are_six_rows(table, thing):
    """Whether any value is a tuple of six rows whose products are those of the kind table of E6."""
    if not isinstance(thing, tuple) or len(thing) != 6 or not all([is_row_of(table, row) for row in thing]):
        return False
    products = product_table(table)
    images = [image_of(products, row) for row in thing]
    wanted = product_table(kind_table(SIX))
    return all([dotted(thing[i], images[j]) == wanted[i][j] for i in range(6) for j in range(i + 1)])


def going_holds(table, thing):
    """Whether any value is a certificate that a joined good signed web goes on, or that it does not."""
    need_joined_good(table)
    if is_headed(thing, "plain", 2):
        return are_plain_rows(table, thing[1])
    return is_headed(thing, "six", 2) and are_six_rows(table, thing[1])


def does_go_on(table):
    """Whether a joined good signed web goes on."""
    need_joined_good(table)
    return kind_of(table)[0] != "E"
