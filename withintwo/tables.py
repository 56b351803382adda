"""Tables, webs, lots, parts, and what a table weighs a row."""

from withintwo.checks import are_integers, is_integer
from withintwo.errors import BadLot, BadPlace, BadRow, BadTable

MOST_PLACES = 12


def is_table(thing):
    """Whether any value is a table."""
    if not isinstance(thing, tuple) or not 1 <= len(thing) <= MOST_PLACES:
        return False
    many = len(thing)
    if not all([are_integers(row) and len(row) == many for row in thing]):
        return False
    return all([thing[i][j] == thing[j][i] for i in range(many) for j in range(i)])


def is_looped_web(thing):
    """Whether any value is a looped web."""
    return is_table(thing) and all([-1 <= entry <= 1 for row in thing for entry in row])


def is_signed_web(thing):
    """Whether any value is a signed web."""
    return is_looped_web(thing) and all([thing[i][i] == 0 for i in range(len(thing))])


def is_web(thing):
    """Whether any value is a web."""
    return is_signed_web(thing) and all([entry >= 0 for row in thing for entry in row])


def need_table(thing):
    """Refuse a value that is no table."""
    if not is_table(thing):
        raise BadTable(thing)


def is_place_of(table, thing):
    """Whether any value is a place of a table, which is not looked at again."""
    return is_integer(thing) and 0 <= thing < len(table)


def need_place(table, thing):
    """Refuse a value that is no place of a table, which is not looked at again."""
    if not is_place_of(table, thing):
        raise BadPlace(thing)


def need_two_places(table, one, other):
    """Refuse values that are no two unlike places of a table, which is not looked at again."""
    need_place(table, one)
    if not is_place_of(table, other) or one == other:
        raise BadPlace(other)


def is_row_of(table, thing):
    """Whether any value is a row for a table, which is not looked at again."""
    return are_integers(thing) and len(thing) == len(table)


def is_lot_of(table, thing):
    """Whether any value is a lot of a table, which is not looked at again."""
    if not are_integers(thing) or not all([is_place_of(table, item) for item in thing]):
        return False
    return all([thing[at] < thing[at + 1] for at in range(len(thing) - 1)])


def is_lot(table, thing):
    """Whether any value is a lot of a table."""
    need_table(table)
    return is_lot_of(table, thing)


def is_row(table, thing):
    """Whether any value is a row for a table."""
    need_table(table)
    return is_row_of(table, thing)


def neighbours(table, place):
    """The lot of the other places with which a place is tied."""
    need_table(table)
    need_place(table, place)
    return tuple([other for other in range(len(table)) if other != place and table[place][other] != 0])


def places_joined(table, start):
    """The places that are joined with a place, each behind one with which it is tied."""
    reached = [start]
    at = 0
    while at < len(reached):
        row = table[reached[at]]
        reached = reached + [place for place in range(len(table)) if row[place] != 0 and place not in reached]
        at += 1
    return reached


def parts_of(table):
    """The ascending tuple of the parts."""
    need_table(table)
    parts = []
    placed = {}
    for start in range(len(table)):
        if start not in placed:
            part = tuple(sorted(places_joined(table, start)))
            parts.append(part)
            for place in part:
                placed[place] = True
    return tuple(parts)


def is_joined(table):
    """Whether a table has just one part."""
    return len(parts_of(table)) == 1


def table_within(table, lot):
    """The table within a lot, neither of which is looked at again."""
    return tuple([tuple([table[i][j] for j in lot]) for i in lot])


def within(table, lot):
    """The table within a lot that is not empty."""
    need_table(table)
    if not is_lot_of(table, lot) or lot == ():
        raise BadLot(lot)
    return table_within(table, lot)


def beside(one, other):
    """The table that has the places of one, then those of other, with 0 between them."""
    need_table(one)
    need_table(other)
    if len(one) + len(other) > MOST_PLACES:
        raise BadTable(other)
    behind = (0,) * len(other)
    ahead = (0,) * len(one)
    return tuple([row + behind for row in one] + [ahead + row for row in other])


def square_of(row):
    """The sum of the squares of a tuple of integers."""
    if not are_integers(row):
        raise BadRow(row)
    return sum([item * item for item in row])


def need_table_and_row(table, row):
    """Refuse a value that is no table, then one that is no row for it."""
    need_table(table)
    if not is_row_of(table, row):
        raise BadRow(row)


def image_of(table, row):
    """The image of a row."""
    need_table_and_row(table, row)
    return tuple([sum([entry * item for entry, item in zip(line, row)]) for line in table])


def weight_of(table, row):
    """What a table weighs a row."""
    return sum([item * told for item, told in zip(row, image_of(table, row))])


def opposite(table):
    """The table with all entries times -1."""
    need_table(table)
    return tuple([tuple([-entry for entry in row]) for row in table])
