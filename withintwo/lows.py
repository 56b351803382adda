"""Good signed webs: root rows for their places, or a row that is weighed too low."""

from withintwo.checks import are_integers, is_headed
from withintwo.goodwebs import BOUND, product_table
from withintwo.grids import dotted
from withintwo.kindrows import rows_of_places
from withintwo.needs import need_signed_web
from withintwo.squares import judge_low, low_holds
from withintwo.tables import is_signed_web, parts_of, table_within

MOST_ITEMS = 24


def is_good(thing):
    """Whether any value is a good signed web."""
    return is_signed_web(thing) and judge_low(thing, BOUND)[0] != "low"


def rows_for(table):
    """The tuple of root rows, one for each place of a good signed web, with its entries as products."""
    rows = [()] * len(table)
    for part in parts_of(table):
        found = rows_of_places(table_within(table, part))
        behind = (0,) * len(found[0])
        rows = [row + (found[part.index(place)] if place in part else behind) for place, row in enumerate(rows)]
    return tuple(rows)


def are_doubled_rows(thing, many):
    """Whether any value is a tuple of so many doubled rows, all of one length within the bounds."""
    if not isinstance(thing, tuple) or len(thing) != many or not all([are_integers(row) for row in thing]):
        return False
    return 1 <= len(thing[0]) <= MOST_ITEMS and all([len(row) == len(thing[0]) for row in thing])


def are_rows_for(table, thing):
    """Whether any value is a tuple of root rows with the entries of a signed web as products."""
    if not are_doubled_rows(thing, len(table)):
        return False
    products = product_table(table)
    return all([dotted(thing[i], thing[j]) == 4 * products[i][j] for i in range(len(table)) for j in range(i + 1)])


def judge_good(table):
    """Any certificate that a signed web is, or is not, good."""
    need_signed_web(table)
    told = judge_low(table, BOUND)
    return told if told[0] == "low" else ("rows", rows_for(table))


def good_holds(table, thing):
    """Whether any value is a certificate that a signed web is, or is not, good."""
    need_signed_web(table)
    if is_headed(thing, "rows", 2):
        return are_rows_for(table, thing[1])
    return is_headed(thing, "low", 2) and low_holds(table, BOUND, thing)
