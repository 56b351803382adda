"""What a workshop can promise, and the certificates against it."""

from withintwo.beyonds import beyond_row, is_beyond_row
from withintwo.checks import is_headed, is_integer
from withintwo.errors import BadPromise
from withintwo.goodwebs import BOUND, product_table
from withintwo.grids import rank_of_rows
from withintwo.growing import are_six_rows
from withintwo.kindrows import six_rows
from withintwo.kinds import kind_of
from withintwo.linewebs import judge_lines, lines_hold
from withintwo.lows import is_good
from withintwo.squares import judge_low, low_holds
from withintwo.tables import is_lot_of, is_place_of, is_web, parts_of, table_within

SINGLE_WORDS = ("low", "between", "plain", "line")
MOST_RANK = 12


def is_promise(thing):
    """Whether any value is a promise."""
    if not isinstance(thing, tuple) or len(thing) == 0 or not isinstance(thing[0], str):
        return False
    if thing[0] == "rank":
        return len(thing) == 2 and is_integer(thing[1]) and 1 <= thing[1] <= MOST_RANK
    return len(thing) == 1 and thing[0] in SINGLE_WORDS


def need_promise(thing):
    """Refuse a value that is no promise."""
    if not is_promise(thing):
        raise BadPromise(thing)


def promise_line(promise):
    """The line that tells a promise."""
    return " ".join([str(item) for item in promise])


def promise_told(line):
    """The promise that a line tells; None if it tells none."""
    promises = [(word,) for word in SINGLE_WORDS] + [("rank", rank) for rank in range(1, MOST_RANK + 1)]
    for promise in promises:
        if promise_line(promise) == line:
            return promise
    return None


def rank_of_web(web):
    """The rank of a good signed web."""
    return rank_of_rows(product_table(web), len(web))


def against_plain(web):
    """Any certificate "six" for a good signed web; None if there is none."""
    for part in parts_of(web):
        table = table_within(web, part)
        if kind_of(table)[0] == "E":
            return ("six", part, six_rows(table))
    return None


def against_line(web):
    """Any certificate that a signed web is no line web; None if it is one."""
    for i, row in enumerate(web):
        if -1 in row:
            return ("minus", i, row.index(-1))
    told = judge_lines(web)
    return told if told[0] == "bar" else None


def against(web, promise):
    """Any certificate of a signed web against a promise; None if it holds."""
    word = promise[0]
    if word == "between":
        row = beyond_row(web)
        return None if row is None else ("beyond", row)
    if word == "line":
        return against_line(web)
    told = judge_low(web, BOUND)
    if told[0] == "low":
        return told
    if word == "rank":
        rank = rank_of_web(web)
        return ("rank", rank) if rank > promise[1] else None
    return against_plain(web) if word == "plain" else None


def is_against_rank(web, most, thing):
    """Whether any value is a certificate "rank" against a rank of at most so much."""
    return is_integer(thing[1]) and thing[1] > most and is_good(web) and rank_of_web(web) == thing[1]


def is_against_plain(web, thing):
    """Whether any value is a certificate "six" with a part of a good signed web."""
    if not is_lot_of(web, thing[1]) or not is_good(web) or thing[1] not in parts_of(web):
        return False
    return are_six_rows(table_within(web, thing[1]), thing[2])


def is_against_line(web, thing):
    """Whether any value is a certificate that a signed web is no line web."""
    if is_headed(thing, "minus", 3):
        i, j = thing[1:]
        return is_place_of(web, i) and is_place_of(web, j) and i < j and web[i][j] == -1
    return is_headed(thing, "bar", 2) and is_web(web) and lines_hold(web, thing)


def is_against(web, promise, thing):
    """Whether any value is a certificate of a signed web against a promise."""
    word = promise[0]
    if word == "between":
        return is_headed(thing, "beyond", 2) and is_beyond_row(web, thing[1])
    if word == "line":
        return is_against_line(web, thing)
    if is_headed(thing, "low", 2):
        return low_holds(web, BOUND, thing)
    if word == "rank":
        return is_headed(thing, "rank", 2) and is_against_rank(web, promise[1], thing)
    return word == "plain" and is_headed(thing, "six", 3) and is_against_plain(web, thing)


def first_broken(web, promises):
    """The pair of the first promise that does not hold and a certificate against it; None if all hold."""
    for promise in promises:
        certificate = against(web, promise)
        if certificate is not None:
            return (promise, certificate)
    return None
