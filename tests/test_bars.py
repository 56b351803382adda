"""[5.4] and bars.py."""

import itertools
import unittest

from tests import helpers, linework
from tests.helpers import Case, any_values, beside, bent, full_web, ring_web, seeded, star_web, web, zero_table
from tests.linework import BARS, line_web, random_pairs, random_web, renamed, shuffled, webs_with_bars
from tests.test_roots import PATH
from withintwo.bars import bar_number, first_bar, nine_bars
from withintwo.errors import BadWeb

THREE = ((0, 1, 1), (1, 0, 1), (1, 1, 0))


def wrong_for_webs():
    things = any_values() + bent(PATH) + [((0, -1), (-1, 0)), ((1,),), ((0, 2), (2, 0)), ((0, 1), (1, 1)), zero_table(13), full_web(3, -1),
                                          ((0, True), (True, 0)), ((0, 1), (0, 0)), ring_web(4, -1), star_web(3, -1)]
    return [thing for thing in things if not helpers.is_web(thing)]


def all_webs(many):
    pairs = list(itertools.combinations(range(many), 2))
    for chosen in itertools.product((0, 1), repeat=len(pairs)):
        yield web(many, [pair for pair, entry in zip(pairs, chosen) if entry])


class BarTests(Case):
    def test_nine_bars(self):
        self.same(self.told(nine_bars), tuple(BARS))
        self.same(nine_bars()[0], ((0, 0, 0, 1), (0, 0, 0, 1), (0, 0, 0, 1), (1, 1, 1, 0)))
        self.assertEqual([sum(map(sum, bar)) // 2 for bar in nine_bars()], [3, 7, 9, 7, 8, 9, 9, 10, 11])
        for bar in nine_bars():
            self.assertTrue(linework.is_bar(bar))

    def test_examples(self):
        self.same(bar_number(star_web(3)), 0)
        self.same(bar_number(THREE), None)
        self.same(first_bar(((0, 1, 1, 1, 0), (1, 0, 0, 0, 1), (1, 0, 0, 0, 0), (1, 0, 0, 0, 0), (0, 1, 0, 0, 0))), (0, 1, 2, 3))

    def test_renamed_bars(self):
        rnd = seeded("renamed bars")
        for number, bar in enumerate(BARS):
            orders = list(itertools.permutations(range(len(bar))))
            for names in orders if len(bar) < 6 else rnd.sample(orders, 60):
                table = renamed(bar, names)
                self.same(self.told(bar_number, table), number)
                self.same(first_bar(table), tuple(range(len(bar))))

    def test_all_webs_of_few_places(self):
        for many in (1, 2, 3, 4, 5):
            for table in all_webs(many):
                told = bar_number(table)
                self.same(told, linework.bar_number(table))
                self.assertEqual(told is not None, linework.is_bar(table))
                self.same(first_bar(table), linework.first_bar(table))
                self.assertEqual(first_bar(table) is None, linework.is_line(table))

    def test_webs_of_six_places(self):
        rnd = seeded("webs of six places")
        tables = [random_web(rnd, 6, part) for part in (30, 40, 50, 60, 70, 80) for _ in range(40)]
        for bar in BARS[3:]:
            # One tie more or less makes no bar of the nine, but perhaps another one.
            for i, j in itertools.combinations(range(6), 2):
                rows = [list(row) for row in bar]
                rows[i][j] = rows[j][i] = 1 - bar[i][j]
                tables.append(tuple(tuple(row) for row in rows))
        for table in tables:
            told = bar_number(table)
            self.same(told, linework.bar_number(table))
            self.assertEqual(told is not None, linework.is_bar(table))
            self.same(first_bar(table), linework.first_bar(table))
            self.assertEqual(first_bar(table) is None, linework.is_line(table))

    def test_line_webs(self):
        rnd = seeded("line webs without bars")
        tables = [line_web(random_pairs(rnd, points, many)) for points, many in
                  ((3, 3), (4, 6), (5, 10), (6, 12), (8, 12), (24, 12), (7, 9), (12, 11)) for _ in range(3)]
        for table in tables + [zero_table(12), full_web(12), ring_web(12), THREE, ((0,),), PATH]:
            self.same(self.told(first_bar, table), None)
            self.same(bar_number(table), None)

    def test_first_bars(self):
        rnd = seeded("first bars")
        lengths = set()
        for table in webs_with_bars(rnd) + [random_web(rnd, many, part) for many in (7, 9, 12) for part in (8, 20, 50, 80, 92)]:
            told = self.told(first_bar, table)
            self.same(told, linework.first_bar(table))
            if told is not None:
                self.assertIsNotNone(bar_number(helpers.within(table, told)))
                lengths.add((len(table), len(told)))
                if len(told) < len(table):
                    self.same(bar_number(table), None)
        self.assertTrue({(12, 4), (12, 5), (12, 6)} <= lengths, lengths)

    def test_shortest_first(self):
        for one, other in itertools.product(BARS, repeat=2):
            table = beside(one, other)
            places = range(len(one)) if len(one) <= len(other) else range(len(one), len(table))
            self.same(first_bar(table), tuple(places))
            self.same(bar_number(table), None)
        self.same(first_bar(beside(((0,),), BARS[5], ((0,),))), (1, 2, 3, 4, 5, 6))

    def test_shuffled(self):
        rnd = seeded("shuffled bars")
        for number, bar in enumerate(BARS):
            table = shuffled(rnd, beside(bar, zero_table(12 - len(bar))))
            places = tuple(place for place in range(12) if any(table[place]))
            self.same(first_bar(table), places)
            self.same(bar_number(helpers.within(table, places)), number)

    def test_wrong_webs(self):
        for wrong in wrong_for_webs():
            self.raises(BadWeb, wrong, bar_number, wrong)
            self.raises(BadWeb, wrong, first_bar, wrong)


if __name__ == "__main__":
    unittest.main()
