"""Webs that are above 2: rows that they weigh too high, and their refusal."""

from withintwo.errors import TooHigh
from withintwo.needs import need_web
from withintwo.squares import judge_high

CEILING = (2, 1)


def high_row(web):
    """A row of integers from 0 on that a web weighs above 2 times its square; None if it is never above 2."""
    word, told = judge_high(web, CEILING)
    # A web weighs the sizes of the integers of a row at least as it weighs the row.
    return tuple([abs(item) for item in told]) if word == "high" else None


def need_never_high(web):
    """Refuse a value that is no web, then one that is above 2."""
    need_web(web)
    row = high_row(web)
    if row is not None:
        raise TooHigh(row)
