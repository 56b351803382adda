"""Even webs of up to 16 places: their counts and values, and the names of those that are never below -2."""

from math import isqrt

from withintwo.checks import are_integers, is_headed, is_integer
from withintwo.errors import BadKind, BadWeb, NotEven
from withintwo.goodwebs import BOUND
from withintwo.greatest import ones_of
from withintwo.grids import dotted, weighed
from withintwo.squares import judged
from withintwo.tables import is_place_of, is_row_of, need_place, table_within
from withintwo.tied import number_pairs

MOST_EVEN = 16
# The least and the greatest number behind a word that stands before just one.
NUMBERS = {"twos": (2, 8), "triangle": (5, 6), "square": (3, 4)}
SINGLE_WORDS = ("ring", "petersen", "shrikhande", "clebsch")
STEPS = ((0, 1), (0, 3), (1, 0), (3, 0), (1, 1), (3, 3))


def is_even_name(thing):
    """Whether any value is an even name."""
    if not isinstance(thing, tuple) or len(thing) == 0 or not isinstance(thing[0], str) or not are_integers(thing[1:]):
        return False
    word = thing[0]
    if word == "lots":
        return len(thing) == 3 and thing[1] >= 1 and thing[2] >= 1 and thing[1] * thing[2] <= MOST_EVEN
    if word in NUMBERS:
        return len(thing) == 2 and NUMBERS[word][0] <= thing[1] <= NUMBERS[word][1]
    return word in SINGLE_WORDS and len(thing) == 1


def many_places(name):
    """How many places the web of an even name has."""
    word = name[0]
    if word in ("lots", "square"):
        return name[1] * name[-1]
    if word == "triangle":
        return len(number_pairs(name[1]))
    if word == "twos":
        return 2 * name[1]
    return {"ring": 5, "petersen": 10}.get(word, MOST_EVEN)


def do_meet(one, other):
    """Whether two pairs have a number in common."""
    return one[0] in other or one[1] in other


def is_tied_in(name, i, j):
    """Whether the web of an even name ties two unlike places."""
    word = name[0]
    if word == "lots":
        return i // name[2] == j // name[2]
    if word == "twos":
        return i // 2 != j // 2
    if word == "ring":
        return (i - j) % 5 in (1, 4)
    if word == "triangle":
        pairs = number_pairs(name[1])
        return do_meet(pairs[i], pairs[j])
    if word == "petersen":
        pairs = number_pairs(5)
        return not do_meet(pairs[i], pairs[j])
    if word == "square":
        return i // name[1] == j // name[1] or i % name[1] == j % name[1]
    if word == "shrikhande":
        return ((i // 4 - j // 4) % 4, (i - j) % 4) in STEPS
    return ones_of(i ^ j) <= 2


def even_web(name):
    """The web of an even name."""
    if not is_even_name(name):
        raise BadKind(name)
    places = range(many_places(name))
    return tuple([tuple([1 if i != j and is_tied_in(name, i, j) else 0 for j in places]) for i in places])


def is_wide_web(thing):
    """Whether any value is a web of at most 16 places."""
    if not isinstance(thing, tuple) or not 1 <= len(thing) <= MOST_EVEN:
        return False
    many = len(thing)
    if not all([are_integers(row) and len(row) == many for row in thing]):
        return False
    if not all([thing[i][i] == 0 for i in range(many)]):
        return False
    return all([thing[i][j] == thing[j][i] and thing[i][j] in (0, 1) for i in range(many) for j in range(i)])


def need_wide_web(thing):
    """Refuse a value that is no web of at most 16 places."""
    if not is_wide_web(thing):
        raise BadWeb(thing)


def pairs_with(web, entry):
    """The list of the pairs of unlike places that have an entry."""
    return [(i, j) for i, j in number_pairs(len(web)) if web[i][j] == entry]


def many_common(web, pair):
    """How many neighbours two places have in common."""
    return dotted(web[pair[0]], web[pair[1]])


def unlike_places(web):
    """A certificate "places" for a web; None if there is none."""
    for place in range(1, len(web)):
        if sum(web[place]) != sum(web[0]):
            return ("places", 0, place)
    return None


def unlike_pairs(web):
    """A certificate "pairs" for a web; None if there is none."""
    for entry in (1, 0):
        pairs = pairs_with(web, entry)
        for pair in pairs:
            if many_common(web, pair) != many_common(web, pairs[0]):
                return ("pairs",) + pairs[0] + pair
    return None


def common_with(web, entry):
    """How many neighbours the first pair with an entry has in common; None if there is no such pair."""
    pairs = pairs_with(web, entry)
    return many_common(web, pairs[0]) if pairs != [] else None


def certificate_of(web):
    """Any certificate that a web is, or is not, even."""
    told = unlike_places(web)
    if told is None:
        told = unlike_pairs(web)
    return ("counts", sum(web[0]), common_with(web, 1), common_with(web, 0)) if told is None else told


def is_even(web):
    """Whether a web is even."""
    need_wide_web(web)
    return certificate_of(web)[0] == "counts"


def judge_even(web):
    """Any certificate that a web is, or is not, even."""
    need_wide_web(web)
    return certificate_of(web)


def is_pair_in(web, thing):
    """Whether any values are two places of a web, the first one below the second one."""
    return all([is_place_of(web, place) for place in thing]) and thing[0] < thing[1]


def is_against_even(web, thing):
    """Whether any value is a certificate "places" or "pairs" for a web."""
    if is_headed(thing, "places", 3):
        return is_pair_in(web, thing[1:]) and sum(web[thing[1]]) != sum(web[thing[2]])
    if not is_headed(thing, "pairs", 5) or not is_pair_in(web, thing[1:3]) or not is_pair_in(web, thing[3:]):
        return False
    if web[thing[1]][thing[2]] != web[thing[3]][thing[4]]:
        return False
    return many_common(web, thing[1:3]) != many_common(web, thing[3:])


def even_holds(web, thing):
    """Whether any value is a certificate that a web is, or is not, even."""
    need_wide_web(web)
    if is_headed(thing, "counts", 4):
        return all([count is None or is_integer(count) for count in thing[1:]]) and thing == certificate_of(web)
    return is_against_even(web, thing)


def values_by_counts(many, counts):
    """The dict from each value of an even web with ties, and pairs without, to how often it is one.

    None if the values are not whole.
    """
    k, l, m = counts
    square = (l - m) * (l - m) + 4 * (k - m)
    root = isqrt(square)
    if root * root != square:
        return None
    high = (l - m + root) // 2
    low = high - root
    # All values add up to 0.
    often = (-k - (many - 1) * low) // root
    found = {low: many - 1 - often, high: often}
    found[k] = found.get(k, 0) + 1
    return found


def even_values(web):
    """The ascending tuple of pairs (value, how often) of an even web; None if the values are not whole."""
    need_wide_web(web)
    told = certificate_of(web)
    if told[0] != "counts":
        raise NotEven(told)
    many = len(web)
    if told[2] is None:
        return ((0, many),)
    if told[3] is None:
        return ((-1, many - 1), (many - 1, 1))
    found = values_by_counts(many, told[1:])
    return None if found is None else tuple(sorted([(value, found[value]) for value in found]))


def opposite_web(web):
    """The web that ties exactly the pairs that a web does not tie."""
    need_wide_web(web)
    places = range(len(web))
    return tuple([tuple([0 if i == j else 1 - web[i][j] for j in places]) for i in places])


def names_with(many):
    """The list of the even names whose webs have so many places."""
    names = [("lots", lots, many // lots) for lots in range(1, many + 1) if many % lots == 0]
    for word in NUMBERS:
        names = names + [(word, number) for number in range(NUMBERS[word][0], NUMBERS[word][1] + 1)]
    names = names + [(word,) for word in SINGLE_WORDS]
    return [name for name in names if many_places(name) == many]


def naming_from(web, named, found):
    """The places of a web, from found on, that have the ties of another one; None if there are none."""
    at = len(found)
    if at == len(web):
        return found
    for place in range(len(web)):
        if place not in found and all([web[place][elder] == named[at][k] for k, elder in enumerate(found)]):
            whole = naming_from(web, named, found + (place,))
            if whole is not None:
                return whole
    return None


def naming_of(web):
    """The pair of an even name and the places in its order; None if a web has no such name."""
    told = certificate_of(web)
    for name in names_with(len(web)):
        named = even_web(name)
        if certificate_of(named) == told:
            names = naming_from(web, named, ())
            if names is not None:
                return (name, names)
    return None


def judge_name(web):
    """Any certificate that a web has, or does not have, an even name."""
    need_wide_web(web)
    told = certificate_of(web)
    if told[0] != "counts":
        return told
    naming = naming_of(web)
    return judged(web, BOUND, 1, "low") if naming is None else ("named",) + naming


def is_naming(web, name, names):
    """Whether any values are an even name and the places of a web in its order."""
    if not is_even_name(name) or many_places(name) != len(web):
        return False
    if not are_integers(names) or sorted(names) != list(range(len(web))):
        return False
    return table_within(web, names) == even_web(name)


def name_holds(web, thing):
    """Whether any value is a certificate that a web has, or does not have, an even name."""
    need_wide_web(web)
    if is_headed(thing, "named", 3):
        return is_naming(web, thing[1], thing[2])
    if is_headed(thing, "low", 2):
        return is_row_of(web, thing[1]) and weighed(web, thing[1]) < -2 * dotted(thing[1], thing[1])
    return is_against_even(web, thing)


def even_name(web):
    """The even name of a web; None if it has none."""
    need_wide_web(web)
    naming = naming_of(web)
    return None if naming is None else naming[0]


def around(web, place):
    """The web around a place; () if it has no neighbours."""
    need_wide_web(web)
    need_place(web, place)
    return table_within(web, [other for other in range(len(web)) if web[place][other] == 1])
