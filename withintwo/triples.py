"""Families of threes of angle tables, regular families, and the webs behind places."""

from withintwo.angles import is_angles, need_angles
from withintwo.checks import are_integers, is_headed, is_integer
from withintwo.errors import BadLot, BadTable, BadTriples
from withintwo.tables import is_lot_of, need_place
from withintwo.tied import number_pairs


def with_turned(table, lot):
    """The angle table with a lot turned."""
    signs = [-1 if place in lot else 1 for place in range(len(table))]
    return tuple([tuple([sign * left * entry for entry, sign in zip(row, signs)]) for row, left in zip(table, signs)])


def turned_lot(table, lot):
    """The angle table with a lot turned."""
    need_angles(table)
    if not is_lot_of(table, lot):
        raise BadLot(lot)
    return with_turned(table, lot)


def threes_of(table):
    """The ascending list of the threes along which the product of the entries is -1."""
    many = len(table)
    found = []
    for i in range(many):
        for j in range(i + 1, many):
            behind = [k for k in range(j + 1, many) if table[i][j] * table[j][k] * table[i][k] == -1]
            found = found + [(i, j, k) for k in behind]
    return found


def family_of(table):
    """The family of an angle table."""
    need_angles(table)
    return tuple(threes_of(table))


def lot_between(one, other):
    """The lot without the place 0 whose turning leads one angle table to the other one; None if there is none."""
    need_angles(one)
    need_angles(other)
    if len(one) != len(other):
        return None
    lot = tuple([place for place in range(len(one)) if one[0][place] != other[0][place]])
    return lot if with_turned(one, lot) == other else None


def need_two_places(table):
    """Refuse a value that is no angle table of two places or more."""
    need_angles(table)
    if len(table) == 1:
        raise BadTable(table)


def with_ones(table, place):
    """The angle table, turned so that a place has the entry 1 with each other one."""
    return with_turned(table, [other for other in range(len(table)) if table[place][other] == -1])


def led_to(table, place):
    """The angle table of the same family in which a place has the entry 1 with each other one."""
    need_angles(table)
    need_place(table, place)
    return with_ones(table, place)


def web_behind(table, place):
    """The web behind a place of an angle table of two places or more."""
    need_two_places(table)
    need_place(table, place)
    told = with_ones(table, place)
    others = [other for other in range(len(table)) if other != place]
    return tuple([tuple([1 if told[i][j] == -1 else 0 for j in others]) for i in others])


def many_threes(table, pair):
    """In how many threes of the family of an angle table two places lie."""
    i, j = pair
    return len([k for k in range(len(table)) if table[i][j] * table[j][k] * table[i][k] == -1])


def judge_regular(table):
    """Any certificate that an angle table of two places or more is, or is not, regular."""
    need_two_places(table)
    first = many_threes(table, (0, 1))
    for pair in number_pairs(len(table)):
        if many_threes(table, pair) != first:
            return ("pairs", (0, 1), pair)
    return ("regular", first)


def is_pair_of(table, thing):
    """Whether any value is an ascending pair of places of an angle table."""
    return is_lot_of(table, thing) and len(thing) == 2


def regular_holds(table, thing):
    """Whether any value is a certificate that an angle table is, or is not, regular."""
    need_two_places(table)
    if is_headed(thing, "regular", 2):
        pairs = number_pairs(len(table))
        return is_integer(thing[1]) and all([many_threes(table, pair) == thing[1] for pair in pairs])
    if not is_headed(thing, "pairs", 3) or not is_pair_of(table, thing[1]) or not is_pair_of(table, thing[2]):
        return False
    return many_threes(table, thing[1]) != many_threes(table, thing[2])


def is_ascending_within(many, thing):
    """Whether any value is an ascending tuple of integers from 0 on and below many."""
    if not are_integers(thing) or not all([0 <= item < many for item in thing]):
        return False
    return all([left < right for left, right in zip(thing, thing[1:])])


def are_threes(n, thing):
    """Whether any value is an ascending tuple of threes of n places."""
    if not isinstance(thing, tuple) or not all([is_ascending_within(n, three) and len(three) == 3 for three in thing]):
        return False
    return all([left < right for left, right in zip(thing, thing[1:])])


def need_threes(n, thing):
    """Refuse a value that is no ascending tuple of threes of n places."""
    if not are_threes(n, thing):
        raise BadTriples(thing)


def many_within(threes, lot):
    """How many of some threes lie within a lot of places."""
    return len([three for three in threes if all([place in lot for place in three])])


def table_of_threes(n, threes):
    """The angle table of n places with the entries 1 of the place 0 and the threes with it."""
    known = {three: True for three in threes}
    rows = [[1] * n for place in range(n)]
    for j in range(n):
        rows[j][j] = 0
        for i in range(1, j):
            if (0, i, j) in known:
                rows[i][j] = -1
                rows[j][i] = -1
    return tuple([tuple(row) for row in rows])


def first_unlike(one, other):
    """The first item that only one of two ascending lists has; None if they are equal."""
    known = {item: True for item in one}
    wanted = {item: True for item in other}
    unlike = [item for item in one if item not in wanted] + [item for item in other if item not in known]
    return min(unlike, default=None)


def judge_family(n, threes):
    """Any certificate that some threes are, or are not, the family of an angle table of n places."""
    need_threes(n, threes)
    table = table_of_threes(n, threes)
    # The table has the right threes with the place 0, so of the four places of another three and 0 all but
    # that one are right; and its own family has an even number of threes among each four places.
    unlike = first_unlike(threes_of(table), threes)
    return ("table", table) if unlike is None else ("four", (0,) + unlike)


def family_holds(n, threes, thing):
    """Whether any value is a certificate that some threes are, or are not, the family of an angle table of n places."""
    need_threes(n, threes)
    if is_headed(thing, "table", 2):
        table = thing[1]
        return is_angles(table) and len(table) == n and tuple(threes_of(table)) == threes
    if not is_headed(thing, "four", 2) or not is_ascending_within(n, thing[1]) or len(thing[1]) != 4:
        return False
    return many_within(threes, thing[1]) % 2 == 1
