"""Tables of which some pairs of places are told, and rows of which all are wanted."""


def tied_table(many, ties, entry):
    """The table of so many places that has an entry at some pairs of places, and 0 elsewhere."""
    rows = [[0] * many for place in range(many)]
    for one, other in ties:
        rows[one][other] = entry
        rows[other][one] = entry
    return tuple([tuple(row) for row in rows])


def way_ties(many):
    """The ties of a way of so many places, each place being tied to the next one."""
    return [(place, place + 1) for place in range(many - 1)]


def number_pairs(many):
    """The ascending list of the pairs of so many numbers, the lesser one first."""
    return [(one, other) for one in range(many) for other in range(one + 1, many)]


def rows_over(items, many):
    """The list of all tuples of so many of some ascending items, ascending."""
    rows = [()]
    for _ in range(many):
        rows = [row + (item,) for row in rows for item in items]
    return rows
