"""[8.5] to [8.7] and triples.py."""

import itertools
import unittest

from tests import helpers
from tests.helpers import Case, any_values, bent, full_web, seeded, symmetric, web
from tests.test_angles import CUBE, GREAT, TABLES, all_angles, is_angle_table, random_angles, turned, wrong_tables
from withintwo.angles import least_dimension
from withintwo.errors import BadLot, BadPlace, BadTable, BadTriples
from withintwo.tables import neighbours
from withintwo.triples import (family_holds, family_of, judge_family, judge_regular, led_to, lot_between, regular_holds, turned_lot,
                               web_behind)
from withintwo.values import whole_values

ONE = ((0,),)
PAIR = ((0, 1), (1, 0))
# The pentagon: regular, its values being the roots of 5.
FIVE = symmetric(6, lambda i, j: 0 if i == j else 1 if i == 5 or (i - j) % 5 in (1, 4) else -1)


def threes(many):
    return tuple(itertools.combinations(range(many), 3))


def family(table):
    """The words of [8.5]."""
    return tuple((i, j, k) for i, j, k in threes(len(table)) if table[i][j] * table[j][k] * table[i][k] == -1)


def is_ascending(many, thing, size):
    return helpers.are_ints(thing, size) and list(thing) == sorted({*thing}) and all(0 <= item < many for item in thing)


def are_threes(many, thing):
    return type(thing) is tuple and all(is_ascending(many, three, 3) for three in thing) and list(thing) == sorted({*thing})


def within_lot(told, lot):
    return sum(1 for three in told if {*three} <= {*lot})


def family_right(many, told, thing):
    """The certificates of [8.5]."""
    if type(thing) is not tuple or len(thing) != 2 or not isinstance(thing[0], str):
        return False
    if thing[0] == "table":
        return is_angle_table(thing[1]) and len(thing[1]) == many and family(thing[1]) == told
    return thing[0] == "four" and is_ascending(many, thing[1], 4) and within_lot(told, thing[1]) % 2 == 1


def many_threes(table, pair):
    return sum(1 for three in family(table) if {*pair} <= {*three})


def regular_right(table, thing):
    """The certificates of [8.6]."""
    if type(thing) is not tuple or not thing or not isinstance(thing[0], str):
        return False
    many = len(table)
    if thing[0] == "regular":
        if len(thing) != 2 or type(thing[1]) is not int:
            return False
        return all(many_threes(table, pair) == thing[1] for pair in itertools.combinations(range(many), 2))
    if thing[0] != "pairs" or len(thing) != 3 or not all(is_ascending(many, pair, 2) for pair in thing[1:]):
        return False
    return many_threes(table, thing[1]) != many_threes(table, thing[2])


def is_regular(table):
    """Whether the table has at most two unlike values: its square is a sum of multiples of it and of 1."""
    many = len(table)
    twice = helpers.multiplied(table, table)
    c = twice[0][1] * table[0][1]
    return all(twice[i][j] == c * table[i][j] for i in range(many) for j in range(many) if i != j)


def some_tables():
    rnd = seeded("tables of threes")
    return TABLES + [FIVE, turned(FIVE, (0, 2, 5)), turned(GREAT, rnd.sample(range(28), 14))] + list(all_angles(4))[::5]


ALL = some_tables()


class TurnedTests(Case):
    def test_examples(self):
        other = turned_lot(CUBE, (0,))
        self.same(other[0], (0, -1, -1, -1))
        self.same(lot_between(CUBE, other), (1, 2, 3))
        self.same(turned_lot(ONE, ()), ONE)
        self.same(turned_lot(ONE, (0,)), ONE)

    def test_turned_lots(self):
        rnd = seeded("turned lots")
        for table in ALL:
            for size in {0, 1, 2, len(table) // 2, len(table)}:
                lot = tuple(sorted(rnd.sample(range(len(table)), min(size, len(table)))))
                other = self.told(turned_lot, table, lot)
                self.same(other, turned(table, lot))
                self.same(turned_lot(other, lot), table)
                self.same(family_of(other), family_of(table))
                rest = tuple(place for place in range(len(table)) if place not in lot)
                self.same(turned_lot(table, rest), other)
                self.same(self.told(lot_between, table, other), rest if 0 in lot else lot)

    def test_wrong_lots(self):
        for table in (ONE, PAIR, CUBE, GREAT):
            many = len(table)
            things = any_values() + bent((0, 1, 2)[:many]) + [(many,), (0, 0), (1, 0), [0], (True,), (-1,), (0, many), tuple(range(many + 1)), None, 0]
            for thing in things:
                if not helpers.is_lot(table, thing):
                    self.raises(BadLot, thing, turned_lot, table, thing)

    def test_wrong_tables(self):
        for wrong in wrong_tables():
            self.raises(BadTable, wrong, turned_lot, wrong, ())
            self.raises(BadTable, wrong, turned_lot, wrong, None)
            self.raises(BadTable, wrong, family_of, wrong)
            self.raises(BadTable, wrong, lot_between, wrong, CUBE)
            self.raises(BadTable, wrong, lot_between, CUBE, wrong)
            self.raises(BadTable, wrong, lot_between, wrong, [0])
            self.raises(BadTable, wrong, led_to, wrong, 0)
            self.raises(BadTable, wrong, led_to, wrong, None)
            self.raises(BadTable, wrong, web_behind, wrong, 0)
            self.raises(BadTable, wrong, web_behind, wrong, None)
            self.raises(BadTable, wrong, judge_regular, wrong)
            self.raises(BadTable, wrong, regular_holds, wrong, ("regular", 0))
            self.raises(BadTable, wrong, regular_holds, wrong, None)

    def test_one_place(self):
        self.raises(BadTable, ONE, web_behind, ONE, 0)
        self.raises(BadTable, ONE, web_behind, ONE, 5)
        self.raises(BadTable, ONE, judge_regular, ONE)
        self.raises(BadTable, ONE, regular_holds, ONE, ("regular", 0))
        self.raises(BadTable, ONE, regular_holds, ONE, None)
        self.same(led_to(ONE, 0), ONE)
        self.same(family_of(ONE), ())
        self.same(lot_between(ONE, ONE), ())

    def test_lot_between(self):
        for many in (2, 3, 4):
            for one, other in itertools.islice(itertools.product(all_angles(many), repeat=2), 0, None, 7):
                lots = [lot for size in range(many) for lot in itertools.combinations(range(1, many), size) if turned(one, lot) == other]
                self.assertEqual(len(lots), 1 if family(one) == family(other) else 0)
                self.same(lot_between(one, other), lots[0] if lots else None)
        for one, other in ((ONE, PAIR), (PAIR, ONE), (CUBE, GREAT), (FIVE, CUBE)):
            self.same(lot_between(one, other), None)
        rnd = seeded("lot between")
        for table in (GREAT, random_angles(rnd, 28), random_angles(rnd, 15)):
            i, j = sorted(rnd.sample(range(len(table)), 2))
            other = symmetric(len(table), lambda k, m: -table[k][m] if (m, k) == (i, j) else table[k][m])
            self.same(lot_between(table, other), None)


class FamilyTests(Case):
    def test_examples(self):
        self.same(family_of(CUBE), ((0, 1, 2), (0, 1, 3), (0, 2, 3), (1, 2, 3)))
        self.same(judge_family(4, ((0, 1, 2),)), ("four", (0, 1, 2, 3)))
        self.whether(True, family_holds, 3, ((0, 1, 2),), ("table", ((0, -1, 1), (-1, 0, 1), (1, 1, 0))))
        self.whether(True, family_holds, 3, (), ("table", ((0, -1, -1), (-1, 0, 1), (-1, 1, 0))))

    def test_family_of(self):
        for table in ALL:
            told = self.told(family_of, table)
            self.same(told, family(table))
            for four in itertools.islice(itertools.combinations(range(len(table)), 4), 60):
                self.assertEqual(within_lot(told, four) % 2, 0)

    def check(self, many, told):
        judged = self.told(judge_family, many, told)
        self.assertTrue(family_right(many, told, judged), (many, told, judged))
        self.whether(True, family_holds, many, told, judged)
        return judged

    def test_all_families_of_few_places(self):
        for many in (1, 2, 3, 4):
            for size in range(len(threes(many)) + 1):
                for told in itertools.combinations(threes(many), size):
                    even = all(within_lot(told, four) % 2 == 0 for four in itertools.combinations(range(many), 4))
                    self.assertEqual(self.check(many, told)[0], "table" if even else "four")
        kinds = []
        for size in range(11):
            for told in itertools.combinations(threes(5), size):
                even = all(within_lot(told, four) % 2 == 0 for four in itertools.combinations(range(5), 4))
                kinds.append(judge_family(5, told))
                self.assertEqual(kinds[-1][0], "table" if even else "four")
                self.assertTrue(family_right(5, told, kinds[-1]))
        # As many as there are angle tables with a first row of ones.
        self.assertEqual([kind[0] for kind in kinds].count("table"), 2 ** 6)

    def test_each_number_of_places(self):
        rnd = seeded("families")
        for many in range(1, 29):
            self.assertEqual(self.check(many, ())[0], "table")
            self.assertEqual(self.check(many, threes(many))[0], "table")
            told = family(random_angles(rnd, many))
            self.assertEqual(self.check(many, told)[0], "table")
            if many > 3:
                three = rnd.choice(threes(many))
                other = tuple(sorted({*told} ^ {three}))
                self.assertEqual(self.check(many, other)[0], "four")
                self.assertEqual(self.check(many, (threes(many)[-1],))[0], "four")
                self.assertEqual(self.check(many, threes(many)[1:])[0], "four")
                self.check(many, tuple(sorted(rnd.sample(threes(many), min(5, len(threes(many)))))))

    def test_hold(self):
        rnd = seeded("family holds")
        for table in (ONE, PAIR, CUBE, FIVE, random_angles(rnd, 7), full_web(5, -1)):
            many, told = len(table), family(table)
            for size in range(min(many, 4)):
                other = turned(table, rnd.sample(range(many), size))
                self.whether(True, family_holds, many, told, ("table", other))
            for thing in bent(("table", table))[::3]:
                self.assertIs(family_holds(many, told, thing), family_right(many, told, thing), thing)
            for lot in itertools.combinations(range(many), 4):
                self.whether(False, family_holds, many, told, ("four", lot))
            if told:
                for lot in itertools.combinations(range(many), 4):
                    self.whether(within_lot(told[1:], lot) % 2 == 1, family_holds, many, told[1:], ("four", lot))
                self.whether(False, family_holds, many, told[1:], ("table", table))
        # Tables of other numbers of places can have the same family.
        for many, other in itertools.product(range(1, 6), repeat=2):
            self.whether(many == other, family_holds, many, (), ("table", full_web(other)))
            table = turned(full_web(other), (0, 2))
            self.whether(many == other, family_holds, many, (), ("table", table))
        self.whether(False, family_holds, 5, ((0, 1, 2), (0, 1, 3)), ("table", symmetric(4, lambda i, j: int(i != j) * (-1 if i == 1 else 1))))
        one = ((0, 1, 2),)
        for lot in ((0, 1, 2, 3), (3, 2, 1, 0), (0, 1, 3, 2), [0, 1, 2, 3], (0, 1, 2), (0, 1, 2, 2), (0, 1, 2, 3, 4), (0, 1, 2, 4), (-1, 0, 1, 2),
                    (False, True, 2, 3), (0, 1, 2, "3"), (1, 2, 3, 4), None, ()):
            self.whether(family_right(4, one, ("four", lot)), family_holds, 4, one, ("four", lot))
            self.whether(family_right(5, one, ("four", lot)), family_holds, 5, one, ("four", lot))

    def test_any_value(self):
        for many, told in ((1, ()), (3, ((0, 1, 2),)), (4, ((0, 1, 2),)), (4, ((0, 1, 2), (0, 1, 3)))):
            judged = judge_family(many, told)
            for thing in any_values() + bent(judged) + [("table",), ("four",), ("table", None), ("four", None), ("table", ()), judged + (0,)]:
                self.assertIs(family_holds(many, told, thing), family_right(many, told, thing), thing)

    def test_wrong_threes(self):
        right = ((0, 1, 2), (0, 1, 3), (1, 2, 3))
        things = any_values() + bent(right) + [((0, 1, 3),), ((0, 1, 2), (0, 1, 2)), ((0, 1, 3), (0, 1, 2)), ((1, 0, 2),), ((0, 0, 1),), ((0, 1),), (0, 1, 2),
                                               ((0, 1, 2, 3),), ([0, 1, 2],), [(0, 1, 2)], ((False, True, 2),), ((0, 1, -1),), ((0, 1, 28),), ((-1, 0, 1),)]
        for many in (1, 2, 3, 4, 5, 28):
            for thing in things:
                if not are_threes(many, thing):
                    self.raises(BadTriples, thing, judge_family, many, thing)
                    self.raises(BadTriples, thing, family_holds, many, thing, ("table", ONE))
                    self.raises(BadTriples, thing, family_holds, many, thing, None)
        self.raises(BadTriples, ((0, 1, 3),), judge_family, 3, ((0, 1, 3),))
        self.raises(BadTriples, ((0, 1, 2),), judge_family, 2, ((0, 1, 2),))


class RegularTests(Case):
    def check(self, table):
        told = self.told(judge_regular, table)
        self.assertTrue(regular_right(table, told), (table, told))
        self.whether(True, regular_holds, table, told)
        return told

    def test_examples(self):
        self.whether(True, regular_holds, CUBE, ("regular", 2))
        self.same(judge_regular(CUBE), ("regular", 2))
        self.same(judge_regular(PAIR), ("regular", 0))
        self.same(judge_regular(((0, -1), (-1, 0))), ("regular", 0))
        self.same(judge_regular(FIVE), ("regular", 2))
        self.same(judge_regular(full_web(28)), ("regular", 0))
        self.same(judge_regular(full_web(28, -1)), ("regular", 26))

    def test_some_tables(self):
        kinds = []
        for table in ALL:
            if len(table) > 1:
                told = self.check(table)
                kinds.append(told[0])
                self.assertEqual(told[0], "regular" if is_regular(table) else "pairs")
        self.assertTrue(min(kinds.count("regular"), kinds.count("pairs")) > 20)
        for many in (2, 3, 4):
            for table in all_angles(many):
                self.assertEqual(self.check(table)[0], "regular" if is_regular(table) else "pairs")

    def test_values(self):
        # [8.6]: the values are roots of t t - c t - (n - 1).
        for table in ALL:
            if len(table) > 1:
                told = judge_regular(table)
                if told[0] == "regular":
                    many, c = len(table), len(table) - 2 - 2 * told[1]
                    twice = helpers.multiplied(table, table)
                    self.assertEqual(twice, [[many - 1 if i == j else c * table[i][j] for j in range(many)] for i in range(many)])
                    if many <= 12:
                        for value, _ in whole_values(table):
                            self.assertEqual(value * value - c * value - (many - 1), 0)

    def test_holds(self):
        rnd = seeded("regular holds")
        for table in (PAIR, full_web(3), full_web(3, -1), CUBE, FIVE, random_angles(rnd, 5), random_angles(rnd, 6), full_web(4, -1)):
            many = len(table)
            for m in range(-1, many + 1):
                self.whether(regular_right(table, ("regular", m)), regular_holds, table, ("regular", m))
            pairs = list(itertools.product(range(-1, many + 1), repeat=2))
            for one, other in rnd.sample(list(itertools.product(pairs, repeat=2)), min(300, len(pairs) ** 2)):
                thing = ("pairs", one, other)
                self.assertIs(regular_holds(table, thing), regular_right(table, thing), (table, thing))
            told = judge_regular(table)
            things = any_values() + bent(told) + [("regular",), ("pairs",), ("pairs", (0, 1)), ("regular", 0, 0), ("pairs", None, None), ("regular", None),
                                                  ("regular", False), ("regular", True), ("regular", (0,)), ("pairs", [0, 1], (0, 1)), list(told), told + (1,),
                                                  ("pairs", 0, 1, 0, 2), ("pairs", (0, 1, 2), (0, 1))]
            for thing in things:
                self.assertIs(regular_holds(table, thing), regular_right(table, thing), (table, thing))


class BehindTests(Case):
    def test_examples(self):
        other = turned_lot(CUBE, (0,))
        self.same(web_behind(other, 0), full_web(3))
        self.same(led_to(other, 0), CUBE)
        self.same(web_behind(PAIR, 1), ((0,),))
        self.same(web_behind(full_web(28), 5), symmetric(27, lambda i, j: 0))

    def test_some_tables(self):
        for table in ALL:
            many = len(table)
            for place in {0, many // 3, many - 1}:
                led = self.told(led_to, table, place)
                self.assertTrue(is_angle_table(led))
                self.assertTrue(all(led[place][other] == (0 if other == place else 1) for other in range(many)))
                self.same(family(led), family(table))
                if many > 1:
                    behind = self.told(web_behind, table, place)
                    others = [other for other in range(many) if other != place]
                    self.same(behind, tuple(tuple(int(led[i][j] == -1) for j in others) for i in others))
                    ties = {(others[i], others[j]) for i in range(many - 1) for j in range(i + 1, many - 1) if behind[i][j]}
                    told = {tuple(item for item in three if item != place) for three in family(table) if place in three}
                    self.assertEqual(ties, told)

    def test_just_one(self):
        for many in (2, 3, 4):
            tables = list(all_angles(many))
            for table in tables[::3]:
                for place in range(many):
                    ones = [other for other in tables if family(other) == family(table) and all(other[place][k] == 1 for k in range(many) if k != place)]
                    self.assertEqual(ones, [led_to(table, place)])

    def test_known_webs(self):
        # The values of the 28 lines are 9 and -3, so each two places lie in 10 threes.
        behind = web_behind(GREAT, 3)
        self.assertEqual({sum(row) for row in behind}, {10})
        self.same(judge_regular(GREAT), ("regular", 10))
        ring = web_behind(FIVE, 5)
        self.assertTrue(all(len(neighbours(ring, place)) == 2 for place in range(5)))
        self.assertEqual(least_dimension(GREAT, 3), 7)
        self.same(web_behind(symmetric(4, lambda i, j: 0 if i == j else 1 if i == 3 else -1), 3), full_web(3))
        self.same(web_behind(symmetric(4, lambda i, j: -1 if (i, j) == (2, 1) else int(i != j)), 3), web(3, [(1, 2)]))

    def test_wrong_places(self):
        for table in (PAIR, CUBE, GREAT):
            for thing in any_values() + bent(1) + [len(table), -1, True, False, None, "0", (0,), 10 ** 99]:
                if not (type(thing) is int and 0 <= thing < len(table)):
                    self.raises(BadPlace, thing, led_to, table, thing)
                    self.raises(BadPlace, thing, web_behind, table, thing)
        self.raises(BadPlace, 1, led_to, ONE, 1)
        self.raises(BadPlace, False, led_to, ONE, False)


if __name__ == "__main__":
    unittest.main()
