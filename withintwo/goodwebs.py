"""Product tables, the refusal of webs that are not good, and the roots with rows that tell them."""

from withintwo.errors import TooLow
from withintwo.needs import need_signed_web
from withintwo.squares import judge_low
from withintwo.writings import unit_row

BOUND = (-2, 1)


def need_good(table):
    """Refuse a value that is no signed web, then one that is not good."""
    need_signed_web(table)
    word, told = judge_low(table, BOUND)
    if word == "low":
        raise TooLow(told)


def product_table(table):
    """The product table of a signed web."""
    places = range(len(table))
    return tuple([tuple([2 if i == j else table[i][j] for j in places]) for i in places])


def mirror_moved(products, root, place):
    """What the mirror of a place makes of a root, given the product table."""
    return tuple([item - root[place] * less for item, less in zip(root, products[place])])


def rows_of_roots(table):
    """A dict from each root of a good signed web to a row that tells it."""
    products = product_table(table)
    places = range(len(table))
    rows = {products[place]: tuple(unit_row(len(table), place)) for place in places}
    # Mirrors of places lead from the roots of the places to all others.
    queue = list(rows)
    at = 0
    while at < len(queue):
        root = queue[at]
        row = rows[root]
        for place in places:
            moved = mirror_moved(products, root, place)
            if moved not in rows:
                rows[moved] = row[:place] + (row[place] - root[place],) + row[place + 1:]
                queue.append(moved)
        at += 1
    return rows
