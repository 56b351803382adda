"""The names of the joined webs never above 2, their diagrams, and the names of the parts of a web."""

from withintwo.checks import are_integers, is_ranked
from withintwo.embedding import embedding_from
from withintwo.errors import BadKind
from withintwo.highs import need_never_high
from withintwo.kinds import kind_ties
from withintwo.needs import need_web
from withintwo.tables import is_place_of, parts_of
from withintwo.tied import tied_table, way_ties

# The least and the greatest number of each sort of names.
RANKS = {"A": (1, 12), "D": (4, 12), "E": (6, 8), "A+": (2, 11), "D+": (4, 11), "E+": (6, 8)}
RINGED = ("A+", "D+", "E+")
E_RINGED_ROWS = {6: (1, 2, 3, 2, 1, 2, 1), 7: (1, 2, 3, 4, 3, 2, 1, 2), 8: (2, 4, 6, 5, 4, 3, 2, 1, 3)}
E_CYCLES = {6: 12, 7: 18, 8: 30}


def is_diagram_name(thing):
    """Whether any value is a name."""
    return is_ranked(thing, dict(RANKS))


def is_ringed_name(thing):
    """Whether any value is a ringed name."""
    return is_diagram_name(thing) and thing[0] in RINGED


def size_of(name):
    """How many places the diagram of a name has."""
    return name[1] + 1 if is_ringed_name(name) else name[1]


def ties_of(name):
    """The pairs of places that are tied in the diagram of a name."""
    word, number = name
    if word == "A+":
        return way_ties(number + 1) + [(0, number)]
    if word == "D+":
        return way_ties(number - 1) + [(1, number - 1), (number - 3, number)]
    if word != "E+":
        return kind_ties(name)
    if number == 6:
        return way_ties(5) + [(2, 5), (5, 6)]
    return way_ties(number) + [(3 if number == 7 else 2, number)]


def diagram(name):
    """The web of a name."""
    if not is_diagram_name(name):
        raise BadKind(name)
    return tied_table(size_of(name), ties_of(name), 1)


def ringed_row(name):
    """The kept row of a ringed name."""
    if not is_ringed_name(name):
        raise BadKind(name)
    word, number = name
    if word == "A+":
        return (1,) * (number + 1)
    if word == "D+":
        return (1,) + (2,) * (number - 3) + (1, 1, 1)
    return E_RINGED_ROWS[number]


def row_of_name(name):
    """A row of integers above 0 for the diagram of a name, at each place not below half the sum of the neighbours'."""
    word, number = name
    if word in RINGED:
        return ringed_row(name)
    # What is left of a ringed diagram keeps its numbers; where a place is missing the sum is less.
    if word == "A":
        return (1,) * number
    if word == "D":
        return (2,) * (number - 2) + (1, 1)
    return E_RINGED_ROWS[8][:number - 1] + E_RINGED_ROWS[8][8:]


def cycle_number(name):
    """The cycle number of a name A, D or E."""
    if not is_diagram_name(name) or is_ringed_name(name):
        raise BadKind(name)
    word, number = name
    if word == "E":
        return E_CYCLES[number]
    return number + 1 if word == "A" else 2 * number - 2


def names_of_size(many):
    """The list of the names whose diagrams have so many places."""
    names = [(word, many - 1 if word in RINGED else many) for word in RANKS]
    return [name for name in names if is_diagram_name(name)]


def named_part(web, part):
    """The name of a part of a web that is never above 2, and its places as they stand in the diagram."""
    many = sum([web[i][j] for i in part for j in part])
    for name in names_of_size(len(part)):
        # With equally many ties no further tie can stand between the places that are found.
        if 2 * len(ties_of(name)) == many:
            places = embedding_from(web, part, diagram(name), ())
            if places is not None:
                return (name, places)
    return None


def named_parts(web):
    """The tuple of the names and places of all parts of a web that is never above 2."""
    return tuple([named_part(web, part) for part in parts_of(web)])


def part_names(web):
    """The tuple of pairs of a name and places, one for each part."""
    need_never_high(web)
    return named_parts(web)


def are_places_as(web, name, thing):
    """Whether any value is a tuple of places within which a web is the diagram of a name."""
    table = diagram(name)
    if not are_integers(thing) or len(thing) != len(table) or not all([is_place_of(web, place) for place in thing]):
        return False
    places = range(len(table))
    return all([web[thing[i]][thing[j]] == table[i][j] for i in places for j in places])


def is_part_named(web, part, thing):
    """Whether any value is a pair of a name and places with which it stands for a part of a web."""
    if not isinstance(thing, tuple) or len(thing) != 2 or not is_diagram_name(thing[0]):
        return False
    return are_places_as(web, thing[0], thing[1]) and tuple(sorted(thing[1])) == part


def parts_hold(web, thing):
    """Whether any value is a tuple of pairs of a name and places for the parts of a web."""
    need_web(web)
    parts = parts_of(web)
    if not isinstance(thing, tuple) or len(thing) != len(parts):
        return False
    return all([is_part_named(web, part, item) for part, item in zip(parts, thing)])
