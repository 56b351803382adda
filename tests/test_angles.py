"""[8.1] to [8.4] and angles.py."""

import itertools
import unittest
from fractions import Fraction

from tests import helpers
from tests.helpers import Case, any_values, bent, full_web, random_signed, seeded, symmetric, zero_table
from withintwo.angles import is_angles, judge_lines, least_dimension, lines_hold, most_lines, most_table, sum_bound
from withintwo.errors import BadTable
from withintwo.squares import written

CUBE = ((0, 1, 1, 1), (1, 0, -1, -1), (1, -1, 0, -1), (1, -1, -1, 0))
PAIRS = list(itertools.combinations(range(8), 2))
# The 28 lines of [8.4]: the rows with two items 3 and six items -1.
GREAT = symmetric(28, lambda i, j: 0 if i == j else 1 if {*PAIRS[i]} & {*PAIRS[j]} else -1)
MOST = (1, 2, 4, 6, 10, 16) + (28,) * 9


def is_angle_table(thing):
    if type(thing) is not tuple or not 1 <= len(thing) <= 28 or not all(helpers.are_ints(row, len(thing)) for row in thing):
        return False
    places = range(len(thing))
    return all(thing[i][j] == thing[j][i] and (thing[i][j] == 0 if i == j else thing[i][j] in (1, -1)) for i in places for j in places)


def random_angles(rnd, many, minus=2):
    """An angle table; about one of minus entries is -1."""
    return symmetric(many, lambda i, j: 0 if i == j else 1 if rnd.randrange(minus) else -1)


def turned(table, lot):
    return symmetric(len(table), lambda i, j: -table[i][j] if (i in lot) != (j in lot) else table[i][j])


def all_angles(many):
    pairs = list(itertools.combinations(range(many), 2))
    for entries in itertools.product((1, -1), repeat=len(pairs)):
        told = dict(zip(pairs, entries))
        yield symmetric(many, lambda i, j: 0 if i == j else told[j, i])


def is_right(table, a, thing):
    """The words of [8.2]."""
    if type(thing) is not tuple or len(thing) != 2 or not isinstance(thing[0], str):
        return False
    if thing[0] == "low":
        return helpers.is_row(table, thing[1]) and helpers.weight(table, thing[1]) < -a * helpers.square(thing[1])
    if thing[0] != "lines" or type(thing[1]) is not tuple:
        return False
    for term in thing[1]:
        if type(term) is not tuple or len(term) != 2 or not helpers.is_fraction(term[0]) or term[0][0] <= 0:
            return False
        if not helpers.is_row(table, term[1]) or not any(term[1]):
            return False
    rows = [row for _, row in thing[1]]
    if helpers.rank(rows) < len(rows):
        return False
    for i in range(len(table)):
        for j in range(i + 1):
            total = sum((Fraction(*share) * row[i] * row[j] for share, row in thing[1]), Fraction(0))
            if total != table[i][j] + (a if i == j else 0):
                return False
    return True


def some_tables():
    rnd = seeded("angle tables")
    found = [((0,),), ((0, 1), (1, 0)), ((0, -1), (-1, 0)), CUBE, GREAT] + list(all_angles(3))
    found += [full_web(many, sign) for many in (4, 5, 9, 28) for sign in (1, -1)]
    for many in (4, 5, 6, 8, 11, 14, 20, 27, 28):
        found += [random_angles(rnd, many), random_angles(rnd, many, 5)]
    for many in (3, 8, 17, 27):
        found.append(helpers.within(GREAT, rnd.sample(range(28), many)))
    found.append(turned(GREAT, rnd.sample(range(28), 11)))
    at = rnd.randrange(1, 28)
    found.append(symmetric(28, lambda i, j: -GREAT[i][j] if (i, j) == (at, 0) else GREAT[i][j]))
    return found


TABLES = some_tables()


def wrong_tables():
    things = any_values() + bent(CUBE) + [zero_table(2), ((0, 2), (2, 0)), ((1,),), ((0, 1), (-1, 0)), ((0, True), (True, 0)), ((False,),), full_web(29),
                                          ((0, 1), (1, 1)), ((0, 1, 1), (1, 0, 0), (1, 0, 0)), [[0]], ((0, 1), (1, 0), (1, 1))]
    return [thing for thing in things if not is_angle_table(thing)]


class AngleTests(Case):
    def test_is_angles(self):
        for table in TABLES:
            self.whether(True, is_angles, table)
            self.assertTrue(is_angle_table(table))
        for thing in wrong_tables():
            self.whether(False, is_angles, thing)
        for thing in bent(CUBE) + bent(((0,),)) + bent(((0, 1), (1, 0))):
            self.assertIs(is_angles(thing), is_angle_table(thing), thing)
        self.whether(True, is_angles, full_web(28))
        self.whether(False, is_angles, full_web(29))

    def test_wrong_tables(self):
        for wrong in wrong_tables():
            self.raises(BadTable, wrong, judge_lines, wrong, 3)
            self.raises(BadTable, wrong, lines_hold, wrong, 3, ("lines", ()))
            self.raises(BadTable, wrong, lines_hold, wrong, 3, None)
            self.raises(BadTable, wrong, least_dimension, wrong, 3)


class LineTests(Case):
    def check(self, table, a):
        below, low, above = helpers.inertia(table, Fraction(-a))
        told = self.told(judge_lines, table, a)
        self.assertEqual(told[0], "low" if below else "lines")
        self.assertTrue(is_right(table, a, told), (table, a, told))
        self.whether(True, lines_hold, table, a, told)
        self.same(self.told(least_dimension, table, a), None if below else above)
        numbers = told[1] if below else [number for share, row in told[1] for number in share + row]
        self.assertTrue(all(abs(number) < 10 ** 1000 for number in numbers))
        if not below:
            self.assertEqual(len(told[1]), above)
            # [8.3]
            many = len(table)
            self.assertLessEqual(many, above * (above + 1) // 2)
            bound = sum_bound(above, a)
            if bound is not None:
                self.assertLessEqual(many, Fraction(*bound))
                # With at most one value beside -a the table, moved by a, is a multiple of its square.
                moved = [[table[i][j] + (a if i == j else 0) for j in range(many)] for i in range(many)]
                twice = helpers.multiplied(moved, moved)
                single = all(twice[i][j] * moved[0][0] == twice[0][0] * moved[i][j] for i in range(many) for j in range(many))
                self.assertIs(many == Fraction(*bound), single, (table, a))
        return told

    def test_examples(self):
        self.same([least_dimension(CUBE, 3), least_dimension(CUBE, 2), sum_bound(3, 3)], [3, None, (4, 1)])
        self.whether(True, lines_hold, CUBE, 2, ("low", (1, -1, -1, -1)))
        self.same(least_dimension(((0,),), 2), 1)
        self.same(least_dimension(GREAT, 3), 7)
        self.same(least_dimension(full_web(28, -1), 9), None)
        self.same(least_dimension(full_web(10, -1), 9), 9)

    def test_some_tables(self):
        seen = []
        for at, table in enumerate(TABLES):
            for a in range(2, 10):
                if len(table) < 12 or (at + a) % 3 == 0 or a == 3:
                    seen.append(self.check(table, a)[0])
        self.assertTrue(min(seen.count("lines"), seen.count("low")) > 50)

    def test_all_of_four_places(self):
        for table in all_angles(4):
            for a in (2, 3, 4):
                self.check(table, a)

    def test_just_at_the_edge(self):
        # All entries -1: the least value is 1 - n.
        for many in range(2, 11):
            table = full_web(many, -1)
            for a in range(2, 10):
                self.assertEqual(self.check(table, a)[0], "low" if many - 1 > a else "lines")
                self.same(least_dimension(table, a), None if many - 1 > a else many - 1 if many - 1 == a else many)

    def test_turned_lots(self):
        rnd = seeded("angles turned")
        for table in TABLES[::2]:
            lot = tuple(sorted(rnd.sample(range(len(table)), rnd.randint(0, len(table)))))
            for a in (2, 3, 5):
                self.same(least_dimension(turned(table, lot), a), least_dimension(table, a))
                told = judge_lines(table, a)
                if told[0] == "low":
                    row = tuple(-item if at in lot else item for at, item in enumerate(told[1]))
                    self.whether(True, lines_hold, turned(table, lot), a, ("low", row))


class HoldTests(Case):
    def check(self, table, a, thing, wanted=None):
        right = is_right(table, a, thing)
        if wanted is not None:
            self.assertIs(right, wanted, (table, a, thing))
        self.whether(right, lines_hold, table, a, thing)

    def test_terms(self):
        one = ((0,),)
        self.check(one, 2, ("lines", (((2, 1), (1,)),)), True)
        self.check(one, 2, ("lines", (((4, 2), (-1,)),)), True)
        self.check(one, 2, ("lines", (((1, 2), (2,)),)), True)
        self.check(one, 3, ("lines", (((2, 1), (1,)),)), False)
        # Two terms for one place depend on one another.
        self.check(one, 2, ("lines", (((1, 1), (1,)), ((1, 1), (1,)))), False)
        self.check(one, 2, ("lines", (((3, 1), (1,)), ((-1, 1), (1,)))), False)
        self.check(one, 2, ("lines", ()), False)
        pair = ((0, 1), (1, 0))
        self.check(pair, 2, ("lines", (((3, 2), (1, 1)), ((1, 2), (1, -1)))), True)
        self.check(pair, 2, ("lines", (((1, 2), (1, -1)), ((3, 2), (1, 1)))), True)
        self.check(pair, 2, ("lines", (((1, 1), (1, 1)), ((1, 1), (1, 0)), ((1, 1), (0, 1)))), False)
        self.check(pair, 2, ("lines", (((3, 2), (1, 1)), ((0, 2), (1, -1)))), False)
        self.check(pair, 3, ("lines", (((3, 2), (1, 1)), ((1, 2), (1, -1)))), False)
        self.check(pair, 2, ("lines", (((3, 2), (1, 1)), ((1, 2), (1, -1)), ((1, 1), (0, 0)))), False)
        # Shares below 0 can write a table, too.
        self.check(pair, 2, ("lines", (((4, 1), (1, 1)), ((-2, 1), (1, 1)), ((-1, 2), (1, -1)))), False)

    def test_told_ones_bent(self):
        rnd = seeded("lines bent")
        for table in TABLES[:30:3]:
            for a in (2, 3, 4, 9):
                told = judge_lines(table, a)
                for other in range(2, 10):
                    if other != a:
                        self.check(table, other, told)
                if told[0] == "lines":
                    terms = told[1]
                    self.check(table, a, ("lines", terms[::-1]), True)
                    self.check(table, a, ("lines", terms[1:]), False)
                    self.check(table, a, ("lines", terms + terms[:1]), False)
                    self.check(table, a, ("low", terms), False)
                    at = rnd.randrange(len(terms))
                    share, row = terms[at]
                    double = (((share[0] * 3, share[1] * 3), tuple(-item for item in row)),)
                    self.check(table, a, ("lines", terms[:at] + double + terms[at + 1:]), True)
                    for wrong in ((share[0], -share[1]), (-share[0], share[1]), (0, 1), (share[0] + 1, share[1]), list(share), share[0]):
                        self.check(table, a, ("lines", terms[:at] + ((wrong, row),) + terms[at + 1:]), False)
                    halves = (((share[0], share[1] * 2), row),)
                    self.check(table, a, ("lines", terms[:at] + halves * 2 + terms[at + 1:]), False)
                else:
                    self.check(table, a, ("low", tuple(item * 10 ** 29 for item in told[1])), True)
                    self.check(table, a, ("low", tuple(-item for item in told[1])), True)
                    self.check(table, a, ("lines", told[1]), False)
                    self.check(table, a, ("low", told[1][1:]), False)

    def test_written_with_shares_below_0(self):
        # Independent rows write a table that is too low only with shares below 0.
        for table in [table for table in TABLES if len(table) <= 12]:
            for a in range(2, 10):
                terms = written(table, (-a, 1))
                below = any(share[0] < 0 for share, _ in terms)
                self.assertEqual(below, judge_lines(table, a)[0] == "low")
                self.check(table, a, ("lines", terms), not below)

    def test_low_rows(self):
        for a in range(2, 10):
            table = full_web(a + 2, -1)
            self.check(table, a, ("low", (1,) * (a + 2)), True)
            self.check(table, a, ("low", (1,) * (a + 1) + (0,)), False)
            self.check(full_web(a + 1, -1), a, ("low", (1,) * (a + 1)), False)
            self.check(table, a, ("low", (10 ** 29,) * (a + 1) + (1,)), True)
            self.check(table, a, ("low", (10 ** 29,) * (a + 1) + (-1,)), False)
            self.check(table, a, ("low", (0,) * (a + 2)), False)
        row = tuple(-item for item in GREAT[0][1:])
        self.check(GREAT, 2, ("low", (3,) + row))

    def test_any_value(self):
        for table, a in ((((0,),), 2), (CUBE, 3), (CUBE, 2), (full_web(3), 5), (full_web(4, -1), 2)):
            told = judge_lines(table, a)
            things = any_values() + bent(told) + [("lines",), ("low",), ("lines", None), ("low", None), ("lines", [told[1]]), ("lines", list(told[1])),
                                                  ("squares", told[1]), told + (1,), ("low", (True,) * len(table)), ("lines", ()), ("low", ())]
            for thing in things:
                self.check(table, a, thing)


class BoundTests(Case):
    def test_sum_bound(self):
        for d in range(1, 101):
            for a in range(2, 10):
                told = self.told(sum_bound, d, a)
                if a * a <= d:
                    self.assertIsNone(told)
                else:
                    wanted = Fraction(d * (a * a - 1), a * a - d)
                    self.same(told, (wanted.numerator, wanted.denominator))

    def test_just_at_the_edge(self):
        for a in range(2, 10):
            self.assertIsNone(sum_bound(a * a, a))
            self.assertIsNone(sum_bound(a * a + 1, a))
            self.same(sum_bound(a * a - 1, a), ((a * a - 1) ** 2, 1))
        self.same(sum_bound(7, 3), (28, 1))
        self.same(sum_bound(1, 2), (1, 1))
        self.same(sum_bound(4, 3), (32, 5))

    def test_most_lines(self):
        for d, wanted in enumerate(MOST, 1):
            self.same(self.told(most_lines, d), wanted)
        for d in list(range(15, 200)) + [10 ** 6, 10 ** 9 - 1, 10 ** 9]:
            self.same(most_lines(d), 2 * (d - 1))

    def test_most_table(self):
        for d in range(1, 16):
            table = self.told(most_table, d)
            self.assertTrue(is_angle_table(table))
            self.assertEqual(len(table), MOST[d - 1])
            below, _, above = helpers.inertia(table, Fraction(-3))
            self.assertEqual(below, 0)
            self.assertLessEqual(above, d)
            self.assertLessEqual(self.told(least_dimension, table, 3), d)

    def test_no_larger_table(self):
        # With three dimensions there are four places at most, with two there are two.
        for many in (2, 3, 4, 5):
            for table in all_angles(many):
                least = least_dimension(table, 3)
                self.assertTrue(least is None or many <= most_lines(least))


if __name__ == "__main__":
    unittest.main()
