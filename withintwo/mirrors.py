"""Mirrors of places, exchanged places, and rows of exchanges to plain bases."""

from withintwo.goodwebs import mirror_moved, need_good, product_table, rows_of_roots
from withintwo.grids import rank_of_rows
from withintwo.heights import is_plain_base
from withintwo.roots import need_root
from withintwo.tables import is_place_of, need_place, need_two_places


def mirrored(table, root, place):
    """The root to which the mirror of a place moves a root."""
    need_good(table)
    need_root(rows_of_roots(table), root)
    need_place(table, place)
    return mirror_moved(product_table(table), root, place)


def mirrored_by(table, root, places):
    """The root to which the mirrors of places move a root, one after the other."""
    need_good(table)
    need_root(rows_of_roots(table), root)
    for place in places:
        need_place(table, place)
    products = product_table(table)
    moved = root
    for place in places:
        moved = mirror_moved(products, moved, place)
    return moved


def ways_from(table, start):
    """A dict from each root that mirrors of places lead a root to, to the first of the shortest tuples that do."""
    products = product_table(table)
    ways = {start: ()}
    queue = [start]
    at = 0
    # Shorter tuples come first, and of equally long ones the first one: so the first that leads to a root is right.
    while at < len(queue):
        root = queue[at]
        for place in range(len(table)):
            moved = mirror_moved(products, root, place)
            if moved not in ways:
                ways[moved] = ways[root] + (place,)
                queue.append(moved)
        at += 1
    return ways


def shortest_mirrors(table, one, other):
    """The first of the shortest tuples of places whose mirrors lead one root to another one; None if there is none."""
    need_good(table)
    rows = rows_of_roots(table)
    need_root(rows, one)
    need_root(rows, other)
    return ways_from(table, one).get(other)


def web_exchanged(table, place, other):
    """The signed web in which a place is exchanged by another one; None if that fails."""
    row = mirror_moved(product_table(table), product_table(table)[place], other)
    entries = [0 if k == place else row[k] for k in range(len(table))]
    if any([abs(entry) > 1 for entry in entries]):
        return None
    rows = []
    for k, line in enumerate(table):
        rows.append(tuple(entries) if k == place else line[:place] + (entries[k],) + line[place + 1:])
    return tuple(rows)


def exchanged(table, place, other):
    """The signed web in which a place is exchanged by another one; None if that fails."""
    need_good(table)
    need_two_places(table, place, other)
    return web_exchanged(table, place, other)


def first_plus(table):
    """The first pair of places with the entry 1; None if there is none."""
    for i, row in enumerate(table):
        if 1 in row:
            return (i, row.index(1))
    return None


def row_to_base(table):
    """Any tuple of exchanges that lead a good signed web to a plain base; None if a value is -2."""
    need_good(table)
    if rank_of_rows(product_table(table), len(table)) < len(table):
        return None
    web = table
    found = []
    pair = first_plus(web)
    while pair is not None:
        web = web_exchanged(web, pair[0], pair[1])
        found.append(pair)
        pair = first_plus(web)
    return tuple(found)


def is_exchange(table, thing):
    """Whether any value is a pair of unlike places of a table."""
    if not isinstance(thing, tuple) or len(thing) != 2:
        return False
    return is_place_of(table, thing[0]) and is_place_of(table, thing[1]) and thing[0] != thing[1]


def row_to_base_holds(table, thing):
    """Whether any value is a tuple of exchanges, none of which fails, that lead a good signed web to a plain base."""
    need_good(table)
    if not isinstance(thing, tuple) or not all([is_exchange(table, pair) for pair in thing]):
        return False
    web = table
    for place, other in thing:
        web = web_exchanged(web, place, other)
        if web is None:
            return False
    return is_plain_base(web)
