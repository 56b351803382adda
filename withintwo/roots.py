"""The roots of a good signed web, its base and its rank."""

from withintwo.checks import are_integers
from withintwo.errors import BadRoot
from withintwo.goodwebs import need_good, product_table, rows_of_roots
from withintwo.grids import dotted, first_of, rank_of_rows


def is_among(rows, thing):
    """Whether any value is one of the roots of a dict."""
    return are_integers(thing) and thing in rows


def need_root(rows, thing):
    """Refuse a value that is not one of the roots of a dict."""
    if not is_among(rows, thing):
        raise BadRoot(thing)


def is_upper(root):
    """Whether the first item of a root that is not 0 is above 0."""
    return root[first_of(root)] > 0


def upper_roots(rows):
    """The ascending list of the upper roots of a dict."""
    return sorted([root for root in rows if is_upper(root)])


def row_less(one, other):
    """The row of the differences of the integers of two rows."""
    return tuple([item - less for item, less in zip(one, other)])


def base_among(uppers):
    """The ascending list of those of all upper roots that are not the sum of two."""
    known = {root: True for root in uppers}
    return [root for root in uppers if not any([row_less(root, other) in known for other in uppers])]


def roots_of(table):
    """The ascending tuple of all roots."""
    need_good(table)
    return tuple(sorted(rows_of_roots(table)))


def is_root(table, thing):
    """Whether any value is a root."""
    need_good(table)
    return is_among(rows_of_roots(table), thing)


def base_of(table):
    """The ascending tuple of the roots of the base."""
    need_good(table)
    return tuple(base_among(upper_roots(rows_of_roots(table))))


def rank_of(table):
    """The number of the roots of the base."""
    need_good(table)
    return rank_of_rows(product_table(table), len(table))


def row_for(table, root):
    """Any row that tells a root."""
    need_good(table)
    rows = rows_of_roots(table)
    need_root(rows, root)
    return rows[root]


def product_of(table, one, other):
    """The product of two roots."""
    need_good(table)
    rows = rows_of_roots(table)
    need_root(rows, one)
    need_root(rows, other)
    return dotted(rows[one], other)


def parts_among(uppers, base, root):
    """How often each root of a base stands in the sum that makes a root, given all upper roots too."""
    known = {upper: True for upper in uppers}
    sign = 1 if root in known else -1
    left = tuple([sign * item for item in root])
    parts = [0] * len(base)
    # From an upper root that is not in the base some root of the base leads down to an upper one.
    while left not in base:
        at = [row_less(left, step) in known for step in base].index(True)
        parts[at] += sign
        left = row_less(left, base[at])
    parts[base.index(left)] += sign
    return tuple(parts)


def parts_of_root(table, root):
    """How often each root of the base stands in the sum that makes a root."""
    need_good(table)
    rows = rows_of_roots(table)
    need_root(rows, root)
    uppers = upper_roots(rows)
    return parts_among(uppers, base_among(uppers), root)
