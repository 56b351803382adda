"""What changes and deals make of a signed web and its promises."""

from withintwo.checks import is_integer
from withintwo.errors import BadChange, BadNumber, BadPromise, Full, LastPlace, TableError
from withintwo.growing import need_entries, with_place
from withintwo.promises import is_promise
from withintwo.tables import need_place, need_two_places, table_within

# How many items the changes with these words have.
SIZES = {"come": 2, "go": 2, "sign": 2, "swap": 3, "tie": 4, "promise": 2, "drop": 2}
MOST_AT_WORK = 10


def is_change(thing):
    """Whether any value is a tuple of a word of a change and as many items as belong to it."""
    if not isinstance(thing, tuple) or len(thing) == 0 or not isinstance(thing[0], str):
        return False
    return thing[0] in SIZES and len(thing) == SIZES[thing[0]]


def come(web, c):
    """The web with the place c."""
    need_entries(web, c)
    if len(web) >= MOST_AT_WORK:
        raise Full()
    return with_place(web, c)


def go(web, place):
    """The web without a place."""
    need_place(web, place)
    if len(web) == 1:
        raise LastPlace()
    return table_within(web, [other for other in range(len(web)) if other != place])


def sign(web, place):
    """The web in which all entries of a place have changed their signs."""
    need_place(web, place)
    places = range(len(web))
    return tuple([tuple([-web[i][j] if place in (i, j) else web[i][j] for j in places]) for i in places])


def swap(web, one, other):
    """The web in which two places have changed their names."""
    need_two_places(web, one, other)
    order = list(range(len(web)))
    order[one] = other
    order[other] = one
    return table_within(web, order)


def tie(web, one, other, entry):
    """The web in which two places have an entry."""
    need_two_places(web, one, other)
    if not is_integer(entry) or not -1 <= entry <= 1:
        raise BadNumber(entry)
    rows = [list(row) for row in web]
    rows[one][other] = entry
    rows[other][one] = entry
    return tuple([tuple(row) for row in rows])


def web_changed(web, change):
    """The web behind a change that is not about promises."""
    word = change[0]
    if word == "come":
        return come(web, change[1])
    if word == "go":
        return go(web, change[1])
    if word == "sign":
        return sign(web, change[1])
    if word == "swap":
        return swap(web, change[1], change[2])
    return tie(web, change[1], change[2], change[3])


def with_promise(promises, promise):
    """The promises with one more behind them."""
    if not is_promise(promise) or promise in promises:
        raise BadPromise(promise)
    return promises + (promise,)


def without_promise(promises, promise):
    """The promises without one of them."""
    if not is_promise(promise) or promise not in promises:
        raise BadPromise(promise)
    return tuple([other for other in promises if other != promise])


def changed(state, change):
    """The pair of web and promises behind a change."""
    if not is_change(change):
        raise BadChange(0)
    web, promises = state
    if change[0] == "promise":
        return (web, with_promise(promises, change[1]))
    if change[0] == "drop":
        return (web, without_promise(promises, change[1]))
    return (web_changed(web, change), promises)


def dealt(state, changes):
    """The pair of web and promises behind a deal."""
    if not isinstance(changes, tuple):
        raise BadChange(-1)
    for at, change in enumerate(changes):
        try:
            state = changed(state, change)
        except TableError:
            raise BadChange(at)
    return state
