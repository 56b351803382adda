"""Turnings of tables, tables that are alike in signs, and tables that are alike."""

from withintwo.checks import are_integers, are_signs, are_unlike, is_headed
from withintwo.errors import BadRow, BadTable, BadTurning
from withintwo.matching import match_of
from withintwo.tables import is_place_of, is_row_of, need_table, parts_of, places_joined


def is_turning_of(table, thing):
    """Whether any value is a turning for the places of a table, which is not looked at again."""
    many = len(table)
    if not isinstance(thing, tuple) or len(thing) != 2:
        return False
    names, signs = thing
    return are_integers(names) and sorted(names) == list(range(many)) and are_signs(signs, many)


def need_turning(table, thing):
    """Refuse a value that is no turning for the places of a table."""
    if not is_turning_of(table, thing):
        raise BadTurning(thing)


def is_turning(table, thing):
    """Whether any value is a turning for the places of a table."""
    need_table(table)
    return is_turning_of(table, thing)


def turned_back(turning):
    """The turning that leads back."""
    names, signs = turning
    places = [names.index(place) for place in range(len(names))]
    return (tuple(places), tuple([signs[place] for place in places]))


def led(table, turning):
    """The table to which a turning leads a table."""
    need_table(table)
    need_turning(table, turning)
    names, signs = turned_back(turning)
    rows = []
    for name, sign in zip(names, signs):
        rows.append(tuple([sign * signs[k] * table[name][names[k]] for k in range(len(table))]))
    return tuple(rows)


def row_led(table, turning, row):
    """The row to which a turning leads a row."""
    need_table(table)
    need_turning(table, turning)
    if not is_row_of(table, row):
        raise BadRow(row)
    names, signs = turned_back(turning)
    return tuple([sign * row[name] for name, sign in zip(names, signs)])


def both(table, first, second):
    """The turning that leads as first and then second do."""
    need_table(table)
    need_turning(table, first)
    need_turning(table, second)
    names = [second[0][name] for name in first[0]]
    signs = [sign * second[1][name] for name, sign in zip(first[0], first[1])]
    return (tuple(names), tuple(signs))


def back(table, turning):
    """The turning that leads back."""
    need_table(table)
    need_turning(table, turning)
    return turned_back(turning)


def is_pair_against(one, other, i, j):
    """Whether the entries of two places show that two tables are not alike in signs."""
    if one[i][j] == other[i][j]:
        return False
    return i == j or one[i][j] != -other[i][j]


def is_ring_of(table, thing):
    """Whether any value is a ring of a table, which is not looked at again."""
    if not are_integers(thing) or len(thing) < 3 or not are_unlike(thing):
        return False
    if not all([is_place_of(table, place) for place in thing]):
        return False
    return all([table[i][j] != 0 for i, j in ring_pairs(thing)])


def ring_pairs(ring):
    """The pairs of neighbours along a ring, from its last place to its first one too."""
    return list(zip(ring, ring[1:] + ring[:1]))


def ring_sign_of(table, ring):
    """The sign of a ring."""
    minuses = [(i, j) for i, j in ring_pairs(ring) if table[i][j] < 0]
    return -1 if len(minuses) % 2 == 1 else 1


def signs_lead(one, other, signs):
    """Whether signs lead one table to the other one."""
    places = range(len(one))
    return all([other[i][j] == signs[i] * signs[j] * one[i][j] for i in places for j in places])


def need_two(one, other):
    """Refuse values that are no tables, or tables with unequal numbers of places."""
    need_table(one)
    need_table(other)
    if len(one) != len(other):
        raise BadTable(other)


def reached_by(table, start):
    """A dict from each place joined with a place, but that one, to a place by which it is reached."""
    ways = {}
    order = places_joined(table, start)
    for at in range(1, len(order)):
        tied = [place for place in order[:at] if table[place][order[at]] != 0]
        ways[order[at]] = tied[0]
    return ways


def chain_to(ways, place):
    """The places through which a place was reached, from itself on."""
    chain = [place]
    while chain[-1] in ways:
        chain.append(ways[chain[-1]])
    return chain


def ring_through(ways, i, j):
    """The ring of two tied places and the chains by which they were reached, up to where these meet."""
    left = chain_to(ways, i)
    right = chain_to(ways, j)
    meeting = [place for place in left if place in right][0]
    return tuple(left[:left.index(meeting) + 1] + right[:right.index(meeting)][::-1])


def judge_signs(one, other):
    """Any certificate that two tables are, or are not, alike in signs."""
    need_two(one, other)
    pairs = [(i, j) for j in range(len(one)) for i in range(j + 1)]
    for i, j in pairs:
        if is_pair_against(one, other, i, j):
            return ("pair", i, j)
    signs = [1] * len(one)
    ways = {}
    for part in parts_of(one):
        reached = reached_by(one, part[0])
        for place in reached:
            way = reached[place]
            ways[place] = way
            signs[place] = signs[way] if one[way][place] == other[way][place] else -signs[way]
    for i, j in pairs:
        if other[i][j] != signs[i] * signs[j] * one[i][j]:
            return ("ring", ring_through(ways, i, j))
    return ("signs", tuple(signs))


def signs_hold(one, other, thing):
    """Whether any value is a certificate that two tables are, or are not, alike in signs."""
    need_two(one, other)
    if is_headed(thing, "signs", 2):
        return are_signs(thing[1], len(one)) and signs_lead(one, other, thing[1])
    if is_headed(thing, "pair", 3):
        i, j = thing[1:]
        if not is_place_of(one, i) or not is_place_of(one, j):
            return False
        return i <= j and is_pair_against(one, other, i, j)
    if not is_headed(thing, "ring", 2) or not is_ring_of(one, thing[1]):
        return False
    ring = thing[1]
    if any([is_pair_against(one, other, i, j) for i, j in ring_pairs(ring)]):
        return False
    return ring_sign_of(one, ring) != ring_sign_of(other, ring)


def sign_along(table, ring):
    """The sign of a ring of a table."""
    need_table(table)
    if not is_ring_of(table, ring):
        raise BadRow(ring)
    return ring_sign_of(table, ring)


def turning_between(one, other):
    """Any turning that leads one table to the other one; None if there is none."""
    need_table(one)
    need_table(other)
    return match_of(one, other)


def first_reaching(table, signs):
    """The first pair of a reached place and a tied one that is not reached; None if there is none."""
    for i in sorted(signs):
        for j in range(len(table)):
            if j not in signs and table[i][j] != 0:
                return (i, j)
    return None


def plain_signs(table):
    """The one table, alike in signs, whose reaching entries are all above 0."""
    need_table(table)
    signs = {}
    for part in parts_of(table):
        signs[part[0]] = 1
        pair = first_reaching(table, signs)
        while pair is not None:
            i, j = pair
            signs[j] = signs[i] if table[i][j] > 0 else -signs[i]
            pair = first_reaching(table, signs)
    places = range(len(table))
    return tuple([tuple([signs[i] * signs[j] * table[i][j] for j in places]) for i in places])
