"""The greatest tables with their names, and seats of looped webs in them."""

from withintwo.checks import are_integers, are_signs, are_unlike
from withintwo.errors import BadKind, BadWeb, NotJoined
from withintwo.tables import is_joined, is_looped_web

# The numbers behind the word of the names T, C and S.
SIGN_PAIRS = ((1, 1), (1, -1), (-1, -1))
S_NUMBERS = ((7, -1), (7, 1), (8, 0), (8, 1), (14, 0), (16, 0))
SEVEN = (-1, 1, 1, 0, 1, 0, 0)
EIGHT = (
    (0, 1, 0, 0, 0, 1, 1, 1),
    (1, 0, 1, 0, 0, 0, 1, -1),
    (0, 1, 0, 1, 1, -1, 0, 0),
    (0, 0, 1, 1, 0, 1, -1, 0),
    (0, 0, 1, 0, -1, -1, 0, 1),
    (1, 0, -1, 1, -1, 0, 0, 0),
    (1, 1, 0, -1, 0, 0, -1, 0),
    (1, -1, 0, 0, 1, 0, 0, 1),
)


def is_seat_name(thing):
    """Whether any value is the name of a greatest table."""
    if not isinstance(thing, tuple) or len(thing) < 2 or not are_integers(thing[1:]):
        return False
    word = thing[0]
    if word == "T":
        return len(thing) == 2 and 3 <= thing[1] <= 20
    if word == "C":
        return len(thing) == 4 and 2 <= thing[1] <= 20 and thing[2:] in SIGN_PAIRS
    return word == "S" and thing[1:] in S_NUMBERS


def lay(rows, one, other, entry):
    """Set the entry of two places."""
    rows[one][other] = entry
    rows[other][one] = entry


def column_rows(many, steps):
    """The rows of so many columns, the first so many of which have one that follows."""
    rows = [[0] * (2 * many) for place in range(2 * many)]
    for step in range(steps):
        behind = 2 * ((step + 1) % many)
        for other in (behind, behind + 1):
            lay(rows, 2 * step, other, 1)
            lay(rows, 2 * step + 1, other, -1)
    return rows


def closed_rows(many, first, last):
    """The rows of so many columns with signs for their two ends."""
    rows = column_rows(many, many - 1)
    for place in (0, 1):
        end = 2 * many - 1 - place
        lay(rows, place, place, first)
        lay(rows, end, end, last)
    lay(rows, 0, 1, first)
    lay(rows, 2 * many - 2, 2 * many - 1, -last)
    return rows


def ones_of(number):
    """How many binary digits of an integer are 1."""
    many = 0
    while number > 0:
        many += number % 2
        number = number // 2
    return many


def even_sign(number):
    """1 if an even number of the binary digits of an integer are 1, otherwise -1."""
    return -1 if ones_of(number) % 2 == 1 else 1


def cube_rows(turns, loop):
    """The rows of the cube with signs of so many turns, with loops of the size of loop."""
    many = 1 << turns
    rows = [[0] * many for place in range(many)]
    for place in range(many):
        lay(rows, place, place, loop * even_sign(place))
        for digit in range(turns):
            if (place >> digit) % 2 == 0:
                lay(rows, place, place + (1 << digit), even_sign(place >> (digit + 1)))
    return rows


def seven_rows(sign):
    """The rows of the table of seven places with a sign."""
    return [[sign * SEVEN[(i + j) % 7] for j in range(7)] for i in range(7)]


def fourteen_rows():
    """The rows of the table of fourteen places."""
    rows = seven_rows(1)
    return [[0] * 7 + row for row in rows] + [row + [0] * 7 for row in rows]


def sporadic_rows(many, mark):
    """The rows of the table S with two numbers."""
    if many == 7:
        return seven_rows(mark)
    if many == 14:
        return fourteen_rows()
    if many == 16:
        return cube_rows(4, 0)
    return cube_rows(3, 1) if mark == 1 else [list(row) for row in EIGHT]


def greatest(name):
    """The greatest table with a name."""
    if not is_seat_name(name):
        raise BadKind(name)
    if name[0] == "T":
        rows = column_rows(name[1], name[1])
    elif name[0] == "C":
        rows = closed_rows(name[1], name[2], name[3])
    else:
        rows = sporadic_rows(name[1], name[2])
    return tuple([tuple(row) for row in rows])


def is_seat(table, thing):
    """Whether any value is a seat for a joined looped web."""
    if not is_looped_web(table):
        raise BadWeb(table)
    if not is_joined(table):
        raise NotJoined()
    if not isinstance(thing, tuple) or len(thing) != 3 or not is_seat_name(thing[0]):
        return False
    name, places, signs = thing
    seats = greatest(name)
    many = len(table)
    if not are_integers(places) or len(places) != many or not are_unlike(places) or not are_signs(signs, many):
        return False
    if not all([0 <= place < len(seats) for place in places]):
        return False
    pairs = [(i, j) for i in range(many) for j in range(i + 1)]
    return all([table[i][j] == seats[places[i]][places[j]] * signs[i] * signs[j] for i, j in pairs])
