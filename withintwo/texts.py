"""The texts of tables."""

from withintwo.errors import BadText
from withintwo.tables import MOST_PLACES, need_table

DIGITS = "0123456789"


def text_of(table):
    """The text of a table."""
    need_table(table)
    lines = [f"table {len(table)}"]
    for place in range(len(table)):
        lines.append(" ".join([str(entry) for entry in table[place][:place + 1]]))
    return "\n".join(lines)


def is_written_integer(word):
    """Whether a string is an integer as Python writes it."""
    digits = word[1:] if word.startswith("-") else word
    if digits == "" or not all([digit in DIGITS for digit in digits]):
        return False
    return word == "0" or digits[0] != "0"


def places_told(line):
    """The number of places that a first line tells; 0 if it tells none."""
    for many in range(1, MOST_PLACES + 1):
        if line == f"table {many}":
            return many
    return 0


def entries_told(line, many):
    """The list of the integers that a line tells; None if it does not tell so many."""
    words = line.split(" ")
    if len(words) != many or not all([is_written_integer(word) for word in words]):
        return None
    return [int(word) for word in words]


def read_table(text):
    """The table with a text."""
    if not isinstance(text, str):
        raise BadText(0)
    lines = text.split("\n")
    many = places_told(lines[0])
    if many == 0:
        raise BadText(1)
    rows = []
    for at in range(1, many + 1):
        row = entries_told(lines[at], at) if at < len(lines) else None
        if row is None:
            raise BadText(at + 1)
        rows.append(row)
    if len(lines) > many + 1:
        raise BadText(many + 2)
    places = range(many)
    return tuple([tuple([rows[max(i, j)][min(i, j)] for j in places]) for i in places])
