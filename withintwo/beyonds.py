"""Looped webs that are not between: rows that they weigh too much or too little, and their refusal."""

from withintwo.errors import Beyond
from withintwo.goodwebs import BOUND
from withintwo.highs import CEILING
from withintwo.squares import judge_high, judge_low
from withintwo.tables import is_row_of, square_of, weight_of


def beyond_row(table):
    """A row that a table weighs beyond 2 or -2 times its square; None if the table is between."""
    word, told = judge_low(table, BOUND)
    if word == "low":
        return told
    word, told = judge_high(table, CEILING)
    return told if word == "high" else None


def is_beyond_row(table, thing):
    """Whether any value is a row that a table weighs beyond 2 or -2 times its square."""
    return is_row_of(table, thing) and abs(weight_of(table, thing)) > 2 * square_of(thing)


def refuse_beyond(table):
    """Refuse a looped web that is not between."""
    row = beyond_row(table)
    if row is not None:
        raise Beyond(row)
