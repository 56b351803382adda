"""Plain bases: the heights of their roots, and their tours of all mirrors."""

from withintwo.errors import BadWeb
from withintwo.goodwebs import BOUND, mirror_moved, product_table, rows_of_roots
from withintwo.roots import need_root
from withintwo.tables import is_joined, is_signed_web
from withintwo.values import many_values


def is_plain_base(thing):
    """Whether any value is a plain base."""
    if not is_signed_web(thing) or any([entry == 1 for row in thing for entry in row]):
        return False
    return many_values(thing, BOUND)[2] == len(thing)


def need_plain_base(thing):
    """Refuse a value that is no plain base."""
    if not is_plain_base(thing):
        raise BadWeb(thing)


def height(table, root):
    """The height of a root of a plain base."""
    need_plain_base(table)
    rows = rows_of_roots(table)
    need_root(rows, root)
    return sum(rows[root])


def heights(table):
    """The tuple that tells how many roots of a plain base have the height 1, 2, and so on."""
    need_plain_base(table)
    rows = rows_of_roots(table)
    found = [sum(rows[root]) for root in rows]
    return tuple([found.count(wanted) for wanted in range(1, max(found) + 1)])


def greatest_root(table):
    """The greatest root of a joined plain base; None for others."""
    need_plain_base(table)
    if not is_joined(table):
        return None
    rows = rows_of_roots(table)
    greatest = max([sum(rows[root]) for root in rows])
    return [root for root in rows if sum(rows[root]) == greatest][0]


def toured(products, root):
    """The root to which the tour moves a root, given the product table."""
    for place in range(len(products)):
        root = mirror_moved(products, root, place)
    return root


def after_tour(table, root):
    """The root to which the tour of a plain base moves a root."""
    need_plain_base(table)
    need_root(rows_of_roots(table), root)
    return toured(product_table(table), root)


def tour_lengths(table):
    """The ascending tuple, with repeats, of how many roots the classes have whose roots tours lead to one another."""
    need_plain_base(table)
    products = product_table(table)
    seen = {}
    lengths = []
    for start in rows_of_roots(table):
        length = 0
        root = start
        while root not in seen:
            seen[root] = True
            length += 1
            root = toured(products, root)
        if length > 0:
            lengths.append(length)
    return tuple(sorted(lengths))
