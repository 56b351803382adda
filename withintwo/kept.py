"""Webs never above 2 and webs below 2, their certificates and kept rows, and signed rings."""

from withintwo.checks import are_integers, are_unlike, is_headed
from withintwo.diagrams import diagram, is_ringed_name, named_parts, row_of_name
from withintwo.embedding import embedding_from
from withintwo.highs import high_row, need_never_high
from withintwo.letting import is_let, measure_of
from withintwo.needs import need_signed_web, need_web
from withintwo.tables import image_of, is_joined, is_place_of, is_row_of, neighbours, opposite, parts_of, square_of
from withintwo.tables import weight_of
from withintwo.tied import rows_over
from withintwo.values import many_values


def is_never_high(web):
    """Whether a web is never above 2."""
    need_web(web)
    return high_row(web) is None


def laid_row(web, name, places):
    """The row that has the numbers for a name at places of a web, and 0 elsewhere."""
    row = [0] * len(web)
    for place, number in zip(places, row_of_name(name)):
        row[place] = number
    return tuple(row)


def kept_row(web):
    """A row of a certificate "kept" for a web that is never above 2; of a certificate "less" if it is below 2."""
    rows = [laid_row(web, name, places) for name, places in named_parts(web)]
    return tuple([sum([row[place] for row in rows]) for place in range(len(web))])


def is_kept_row(web, thing):
    """Whether any value is a row as in a certificate "kept"."""
    if not is_row_of(web, thing) or not all([item > 0 for item in thing]):
        return False
    return all([total <= 2 * item for total, item in zip(image_of(web, thing), thing)])


def is_high_row(web, thing):
    """Whether any value is a row as in a certificate "high"."""
    if not is_row_of(web, thing) or not all([item >= 0 for item in thing]):
        return False
    return weight_of(web, thing) > 2 * square_of(thing)


def judge_kept(web):
    """Any certificate that a web is, or is not, never above 2."""
    need_web(web)
    row = high_row(web)
    return ("kept", kept_row(web)) if row is None else ("high", row)


def kept_holds(web, thing):
    """Whether any value is a certificate that a web is, or is not, never above 2."""
    need_web(web)
    if is_headed(thing, "kept", 2):
        return is_kept_row(web, thing[1])
    return is_headed(thing, "high", 2) and is_high_row(web, thing[1])


def is_below_two(web):
    """Whether a web is below 2."""
    need_web(web)
    return many_values(web, (2, 1))[0] == len(web)


def ringed_names():
    """The list of all ringed names."""
    names = [("A+", number) for number in range(2, 12)] + [("D+", number) for number in range(4, 12)]
    return names + [("E+", number) for number in range(6, 9)]


def ringed_within(web):
    """A ringed name and places of a web that have the ties of its diagram; None if there are none."""
    for name in ringed_names():
        places = embedding_from(web, list(range(len(web))), diagram(name), ())
        if places is not None:
            return (name, places)
    return None


def judge_below(web):
    """Any certificate that a web is, or is not, below 2."""
    if is_below_two(web):
        return ("less", kept_row(web))
    return ("ringed",) + ringed_within(web)


def is_less_row(web, thing):
    """Whether any value is a row as in a certificate "less"."""
    if not is_kept_row(web, thing):
        return False
    image = image_of(web, thing)
    return all([any([image[place] < 2 * thing[place] for place in part]) for part in parts_of(web)])


def do_ring(web, name, places):
    """Whether any values are a ringed name and places of a web that have the ties of its diagram."""
    if not is_ringed_name(name) or not are_integers(places) or not are_unlike(places):
        return False
    table = diagram(name)
    if len(places) != len(table) or not all([is_place_of(web, place) for place in places]):
        return False
    many = range(len(table))
    return all([web[places[i]][places[j]] >= table[i][j] for i in many for j in many])


def below_holds(web, thing):
    """Whether any value is a certificate that a web is, or is not, below 2."""
    need_web(web)
    if is_headed(thing, "less", 2):
        return is_less_row(web, thing[1])
    return is_headed(thing, "ringed", 3) and do_ring(web, thing[1], thing[2])


def kept_rows(web):
    """The ascending tuple of the kept rows of the ringed parts of a web."""
    need_never_high(web)
    return tuple(sorted([laid_row(web, name, places) for name, places in named_parts(web) if is_ringed_name(name)]))


def high_comings(web):
    """The ascending tuple of the high comings of a web."""
    need_never_high(web)
    # Never above 2 is what never below -2 is for the opposite, which lets c and its opposite alike.
    measure = measure_of(opposite(web))
    return tuple([c for c in rows_over((0, 1), len(web)) if is_let(measure, c)])


def ring_sign(table):
    """The sign of a signed ring; None for other signed webs."""
    need_signed_web(table)
    # Joined places with two neighbours each make one ring; of two places none has two.
    if not is_joined(table) or not all([len(neighbours(table, place)) == 2 for place in range(len(table))]):
        return None
    minuses = sum([1 for row in table for entry in row if entry < 0])
    return -1 if minuses % 4 == 2 else 1


def ring_ends(table):
    """The pair that tells whether 2, and whether -2, is a value of a signed ring; None for other signed webs."""
    sign = ring_sign(table)
    if sign is None:
        return None
    return (sign == 1, sign == (1 if len(table) % 2 == 0 else -1))
