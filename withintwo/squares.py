"""Tables written as sums of squares, and certificates that a table is never below or above a fraction."""

from withintwo.checks import is_headed
from withintwo.grids import rank_of_rows
from withintwo.ratios import need_fraction
from withintwo.tables import is_row_of, need_table, square_of, weight_of
from withintwo.writings import are_terms, do_write, row_behind, steps_of


def need_table_and_fraction(table, number):
    """Refuse a value that is no table, then one that is no fraction."""
    need_table(table)
    need_fraction(number)


def terms_of(steps):
    """The tuple of the terms of some steps."""
    return tuple([step[:2] for step in steps])


def judged(table, number, sign, word):
    """Terms whose shares have a sign, or, with the word, a row that shows that there are none."""
    steps = steps_of(table, number)
    for at in range(len(steps)):
        if steps[at][0][0] * sign < 0:
            return (word, row_behind(steps[:at + 1]))
    return ("squares", terms_of(steps))


def judgement_holds(table, number, thing, sign, word):
    """Whether any value is a certificate such as judged tells."""
    if is_headed(thing, word, 2):
        if not is_row_of(table, thing[1]):
            return False
        return sign * (number[1] * weight_of(table, thing[1]) - number[0] * square_of(thing[1])) < 0
    if not is_headed(thing, "squares", 2) or not are_terms(table, thing[1]):
        return False
    return all([term[0][0] * sign > 0 for term in thing[1]]) and do_write(table, number, thing[1])


def written(table, number):
    """Any tuple of terms with independent rows that write a table at a fraction."""
    need_table_and_fraction(table, number)
    return terms_of(steps_of(table, number))


def written_holds(table, number, thing):
    """Whether any value is a tuple of terms with independent rows that write a table at a fraction."""
    need_table_and_fraction(table, number)
    if not are_terms(table, thing) or len(thing) > len(table):
        return False
    if rank_of_rows([term[1] for term in thing], len(table)) < len(thing):
        return False
    return do_write(table, number, thing)


def judge_low(table, number):
    """Any certificate that a table is, or is not, never below a fraction."""
    need_table_and_fraction(table, number)
    return judged(table, number, 1, "low")


def low_holds(table, number, thing):
    """Whether any value is a certificate that a table is, or is not, never below a fraction."""
    need_table_and_fraction(table, number)
    return judgement_holds(table, number, thing, 1, "low")


def judge_high(table, number):
    """Any certificate that a table is, or is not, never above a fraction."""
    need_table_and_fraction(table, number)
    return judged(table, number, -1, "high")


def high_holds(table, number, thing):
    """Whether any value is a certificate that a table is, or is not, never above a fraction."""
    need_table_and_fraction(table, number)
    return judgement_holds(table, number, thing, -1, "high")
