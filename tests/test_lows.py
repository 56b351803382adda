"""[4.1] and lows.py."""

import itertools
import unittest

from tests import helpers
from tests.helpers import (Case, any_values, beside, bent, full_web, kind_table, random_signed, random_turning, ring_web, seeded,
                           star_web, zero_table)
from tests.test_roots import GOOD, GREAT, LOW, PATH, TWO, wrong_webs
from withintwo.errors import BadWeb
from withintwo.lows import good_holds, is_good, judge_good
from withintwo.squares import judge_low

STAR = star_web(3)
SIX = star_web(5)
ONE = ((0,),)
HALVES = (1,) * 8


def is_right(table, thing):
    """The words of [4.1]."""
    if type(thing) is not tuple or len(thing) != 2 or not isinstance(thing[0], str):
        return False
    if thing[0] == "low":
        return helpers.is_low_row(table, thing[1])
    rows = thing[1]
    if thing[0] != "rows" or type(rows) is not tuple or len(rows) != len(table):
        return False
    if not all(helpers.are_ints(row) and 1 <= len(row) <= 24 and len(row) == len(rows[0]) for row in rows):
        return False
    for i, j in itertools.product(range(len(table)), repeat=2):
        if sum(x * y for x, y in zip(rows[i], rows[j])) != 4 * (2 if i == j else table[i][j]):
            return False
    return True


def padded(rows, ahead, behind):
    return tuple((0,) * ahead + row + (0,) * behind for row in rows)


def random_root_row(rnd, many):
    """A root row of any sort: two items of the size 2, one and four ones, or eight ones."""
    sizes = rnd.choice([sizes for sizes in ((2, 2), (2, 1, 1, 1, 1), (1,) * 8) if len(sizes) <= many])
    row = [0] * many
    for place, size in zip(rnd.sample(range(many), len(sizes)), sizes):
        row[place] = rnd.choice((1, -1)) * size
    return tuple(row)


def webs_of_any_rows():
    """Pairs of a signed web and root rows of all sorts that tell it."""
    rnd = seeded("any rows")
    found = []
    for many in (2, 5, 8, 9, 12, 24):
        for _ in range(4):
            rows = []
            for _ in range(60):
                row = random_root_row(rnd, many)
                products = [sum(x * y for x, y in zip(row, other)) for other in rows]
                if len(rows) < 10 and all(told in (-4, 0, 4) for told in products):
                    rows.append(row)
            table = helpers.symmetric(len(rows), lambda i, j: 0 if i == j else sum(x * y for x, y in zip(rows[i], rows[j])) // 4)
            found.append((table, tuple(rows)))
    return found


class JudgeTests(Case):
    def judged(self, table):
        """What is told is right, of the one kind that there is, and accepted; the kind."""
        told = self.told(judge_good, table)
        self.assertTrue(is_right(table, told), (table, told))
        self.assertTrue(told[0] == "rows" or all(abs(item) < 10 ** 1000 for item in told[1]))
        self.whether(True, good_holds, table, told)
        return told[0]

    def test_examples(self):
        self.whether(True, is_good, STAR)
        self.whether(False, is_good, SIX)
        self.assertEqual(judge_good(STAR)[0], "rows")

    def test_good_webs(self):
        for table, _ in GOOD + GREAT:
            self.assertEqual(self.judged(table), "rows")
            self.whether(True, is_good, table)

    def test_kind_tables_beyond_ten_places(self):
        for table in (kind_table("A", 12), kind_table("D", 12), zero_table(12), beside(*[TWO] * 6), beside(*[STAR] * 3),
                      beside(kind_table("E", 6), kind_table("E", 6)), beside(kind_table("E", 8), ONE, ONE, TWO)):
            self.assertEqual(self.judged(table), "rows")

    def test_webs_that_are_not_good(self):
        for table in LOW:
            self.assertEqual(self.judged(table), "low")
            self.whether(False, is_good, table)

    def test_any_signed_webs(self):
        rnd = seeded("good or low")
        kinds = {}
        for many in range(1, 11):
            for part in (1, 2, 3, 5, 8):
                for _ in range(5):
                    table = random_signed(rnd, many, part)
                    wanted = "rows" if helpers.is_good(table) else "low"
                    self.assertEqual(self.judged(table), wanted)
                    self.whether(wanted == "rows", is_good, table)
                    kinds[wanted] = kinds.get(wanted, 0) + 1
        self.assertTrue(min(kinds.values()) > 50, kinds)

    def test_turned_webs_of_several_parts(self):
        rnd = seeded("turned rows")
        for tables in ((ONE, STAR, TWO), (ring_web(4), kind_table("D", 5), ONE), (kind_table("E", 6), full_web(3)), (ONE,) * 10,
                       (kind_table("E", 7), ONE, ONE, ONE), (ring_web(4, -1), ring_web(5, -1))):
            table = beside(*tables)
            for _ in range(3):
                self.assertEqual(self.judged(helpers.led(table, random_turning(rnd, len(table)))), "rows")

    def test_all_signed_webs_of_few_places(self):
        for many in (1, 2, 3, 4):
            pairs = list(itertools.combinations(range(many), 2))
            for entries in itertools.product((-1, 0, 1), repeat=len(pairs)):
                told = dict(zip(pairs, entries))
                table = helpers.symmetric(many, lambda i, j: told.get((j, i), 0))
                self.assertEqual(self.judged(table), "rows" if helpers.is_good(table) else "low")

    def test_is_good_of_any_value(self):
        for thing in any_values() + bent(PATH) + bent(STAR) + wrong_webs() + [((1,),), ((0, 2), (2, 0)), zero_table(13)]:
            self.whether(helpers.is_good(thing), is_good, thing)


class HoldTests(Case):
    def check(self, table, thing, wanted=None):
        right = is_right(table, thing)
        if wanted is not None:
            self.assertIs(right, wanted, (table, thing))
        self.whether(right, good_holds, table, thing)

    def test_examples(self):
        self.check(SIX, ("low", (-2, 1, 1, 1, 1, 1)), True)
        self.check(SIX, ("low", (-1, 1, 1, 1, 0, 0)), False)
        self.check(STAR, ("rows", ((2, 2, 0, 0), (2, 0, 2, 0), (2, 0, -2, 0), (0, 2, 0, 2))), True)

    def test_lengths(self):
        self.check(ONE, ("rows", ((2, 2),)), True)
        self.check(ONE, ("rows", ((2,),)), False)
        self.check(ONE, ("rows", ((3,),)), False)
        self.check(ONE, ("rows", ((),)), False)
        self.check(ONE, ("rows", ()), False)
        for many in range(23):
            self.check(ONE, ("rows", padded(((2, -2),), many, 22 - many)), True)
        for ahead, behind in ((0, 0), (1, 0), (0, 1), (20, 0), (0, 20), (7, 13)):
            self.check(STAR, ("rows", padded(((2, 2, 0, 0), (2, 0, 2, 0), (2, 0, -2, 0), (0, 2, 0, 2)), ahead, behind)), True)
        self.check(ONE, ("rows", padded(((2, 2),), 23, 0)), False)
        self.check(ONE, ("rows", padded(((2, 2),), 0, 23)), False)
        self.check(STAR, ("rows", padded(((2, 2, 0, 0), (2, 0, 2, 0), (2, 0, -2, 0), (0, 2, 0, 2)), 21, 0)), False)
        self.check(TWO, ("rows", ((2, 2, 0), (2, 0, 2, 0))), False)
        self.check(TWO, ("rows", ((2, 2, 0, 0), (2, 0, 2))), False)

    def test_halves(self):
        self.check(ONE, ("rows", (HALVES,)), True)
        self.check(ONE, ("rows", ((-1,) + HALVES[1:],)), True)
        self.check(ONE, ("rows", (HALVES[1:],)), False)
        self.check(ONE, ("rows", (HALVES + (1,),)), False)
        self.check(ONE, ("rows", padded((HALVES,), 9, 7)), True)
        self.check(ONE, ("rows", ((2, 1, 1, 1, 1),)), True)
        self.check(ONE, ("rows", ((1, 0, 1, -2, 0, 1, -1),)), True)
        self.check(TWO, ("rows", (HALVES, (2, 2) + (0,) * 6)), True)
        self.check(TWO, ("rows", (HALVES, (2, -2) + (0,) * 6)), False)
        self.check(zero_table(2), ("rows", (HALVES, (2, -2) + (0,) * 6)), True)
        self.check(TWO, ("rows", (HALVES, (1,) * 6 + (-1, -1))), True)
        self.check(TWO, ("rows", (HALVES, (1,) * 7 + (-1,))), False)
        self.check(TWO, ("rows", (HALVES + (0,), (1,) * 7 + (0, 1))), False)
        self.check(ONE, ("rows", ((0, 0, 0),)), False)

    def test_rows_of_all_sorts(self):
        for table, rows in webs_of_any_rows():
            self.check(table, ("rows", rows), True)
            self.assertTrue(is_good(table))
            for at in range(len(rows)):
                for place in range(len(rows[0])):
                    for item in (-3, -1, 0, 1, 2, 3):
                        changed = rows[at][:place] + (item,) + rows[at][place + 1:]
                        thing = ("rows", rows[:at] + (changed,) + rows[at + 1:])
                        self.assertIs(good_holds(table, thing), is_right(table, thing), (table, thing))
            for i, j in itertools.combinations(range(len(table)), 2):
                swapped = list(rows)
                swapped[i], swapped[j] = rows[j], rows[i]
                self.check(table, ("rows", tuple(swapped)))

    def test_equal_and_opposite_rows(self):
        for rows in (((2, 2), (2, 2)), ((2, 2), (-2, -2)), (HALVES, HALVES), (HALVES, tuple(-x for x in HALVES))):
            for table in (zero_table(2), TWO, ((0, -1), (-1, 0))):
                self.check(table, ("rows", rows), False)
        self.check(zero_table(2), ("rows", ((2, 2), (2, -2))), True)
        self.check(((0, -1), (-1, 0)), ("rows", ((2, -2, 0), (0, 2, -2))), True)

    def test_items_beyond_root_rows(self):
        for item in (3, -3, 4, 8, 10 ** 30 - 1, -(10 ** 30 - 1), 10 ** 99):
            self.check(ONE, ("rows", ((item,),)), False)
            self.check(ONE, ("rows", ((2, item),)), False)
            self.check(TWO, ("rows", ((2, 2, 0), (2, 0, item))), False)
            self.check(TWO, ("rows", ((2, item, 0), (2, 0, item))), False)

    def test_low_rows(self):
        great = 10 ** 29
        self.check(SIX, ("low", tuple(great * item for item in (-2, 1, 1, 1, 1, 1))), True)
        self.check(SIX, ("low", (-2 * great, great, great, great, great, great + 1)), True)
        self.check(SIX, ("low", (2 * great, great, great, great, great, great)), False)
        self.check(SIX, ("low", (0,) * 6), False)
        self.check(SIX, ("low", (-2, 1, 1, 1, 1, 0)), False)
        # These webs weigh a row with just -2 times its square.
        self.check(star_web(4), ("low", (-2, 1, 1, 1, 1)), False)
        self.check(star_web(4), ("low", (-2 * great, great, great, great, great)), False)
        self.check(ring_web(4), ("low", (1, -1, 1, -1)), False)
        for table in LOW:
            told = judge_good(table)[1]
            self.check(table, ("low", tuple(-(10 ** 20) * item for item in told)), True)
            self.check(table, ("low", told + (0,)), False)
            self.check(table, ("low", list(told)), False)
            self.check(table, ("low", tuple(map(abs, told))))

    def test_certificates_for_another_web(self):
        tables = [table for table, _ in GOOD[:30]] + LOW
        told = [judge_good(table) for table in tables]
        for table, own in zip(tables, told):
            for thing in told:
                self.check(table, thing, True if thing == own else None)
        self.check(((0, -1), (-1, 0)), judge_good(TWO), False)
        self.check(beside(TWO, ONE), judge_good(TWO), False)
        self.check(TWO, judge_good(beside(TWO, ONE)), False)

    def test_sums_of_squares_are_no_certificates(self):
        for table in (ONE, TWO, PATH, STAR, star_web(4)):
            self.check(table, judge_low(table, (-2, 1)), False)

    def test_any_value(self):
        for table in (ONE, TWO, PATH, STAR, full_web(4, -1)):
            things = any_values() + bent(judge_good(table))
            things += [("rows", ((2, 2),)), ("rows", [(2, 2)]), ("rows", ([2, 2],)), ["rows", ((2, 2),)], ("low", (1, -1)), ("rows",),
                       ("rows", ((2, 2),), ()), ("low",), ("ROWS", ((2, 2),)), ("rows", ((2, -2, 0), (2, 0, -2))), "rows",
                       ("rows", ((2, True, True, True, True),)), ("rows", (HALVES[:7] + (True,),)), ("rows", {0: (2, 2)}),
                       ("rows", ((2, 2, False),)), ("low", (-1, True, True, True)), ("squares", ()), ("rows", ("22",))]
            for thing in things:
                self.assertIs(good_holds(table, thing), is_right(table, thing), (table, thing))

    def test_bad_webs(self):
        for wrong in wrong_webs():
            self.raises(BadWeb, wrong, judge_good, wrong)
            for thing in (None, ("rows", ((2, 2),)), ("low", (1,))):
                self.raises(BadWeb, wrong, good_holds, wrong, thing)


if __name__ == "__main__":
    unittest.main()
