"""[10.3] to [10.5] and heights.py."""

import itertools
import unittest

from tests import helpers
from tests.helpers import Case, any_values, beside, bent, full_web, kind_table, ring_web, seeded, star_web, symmetric, web, zero_table
from tests.linework import shuffled
from tests.test_mirrors import is_plain, moved
from tests.test_roots import all_roots, product_table
from withintwo.errors import BadRoot, BadWeb
from withintwo.heights import after_tour, greatest_root, height, heights, is_plain_base, tour_lengths
from withintwo.mirrors import row_to_base, exchanged, shortest_mirrors

WAY = kind_table("A", 3)
KINDS = [("A", m) for m in range(1, 11)] + [("D", m) for m in range(4, 11)] + [("E", 6), ("E", 7), ("E", 8)]
TOURS = {("E", 6): 12, ("E", 7): 18, ("E", 8): 30}


def bases():
    rnd = seeded("plain bases")
    found = [(kind_table(*kind), kind) for kind in KINDS] + [(shuffled(rnd, kind_table(*kind)), kind) for kind in KINDS if kind[1] > 1]
    found += [(zero_table(2), None), (zero_table(10), None), (beside(kind_table("E", 6), kind_table("A", 3)), None),
              (beside(kind_table("D", 4), kind_table("A", 2), kind_table("A", 1)), None), (beside(kind_table("D", 5), kind_table("D", 5)), None)]
    return found + [(shuffled(rnd, table), None) for table, _ in found[-3:]]


BASES = bases()


def tours(kind):
    letter, rank = kind
    return TOURS.get(kind) or (rank + 1 if letter == "A" else 2 * rank - 2)


def toured(table, root):
    for place in range(len(table)):
        root = moved(table, root, place)
    return root


def not_plain():
    things = any_values() + bent(WAY) + [((0, 1), (1, 0)), full_web(3), full_web(3, -1), ring_web(3, -1), ring_web(5), star_web(4, -1), star_web(5, -1),
                                         ((1,),), ((-1,),), ((0, -2), (-2, 0)), zero_table(13), web(3, [(0, 1)]), beside(WAY, ((0, 1), (1, 0))),
                                         web(9, [(k, k + 1) for k in range(7)] + [(2, 8)], -1), web(7, [(0, 1), (1, 2), (2, 3), (3, 4), (2, 5), (5, 6)], -1),
                                         helpers.symmetric(4, lambda i, j: 0 if i == j or abs(i - j) == 2 else -1), beside(WAY, star_web(4, -1)), [[0]]]
    return [thing for thing in things if not (helpers.is_signed_web(thing) and is_plain(thing))]


class PlainTests(Case):
    def test_examples(self):
        self.whether(True, is_plain_base, WAY)
        self.whether(True, is_plain_base, ((0,),))
        self.whether(False, is_plain_base, ((0, 1), (1, 0)))
        self.whether(False, is_plain_base, ring_web(4, -1))

    def test_bases(self):
        for table, _ in BASES:
            self.assertTrue(is_plain(table))
            self.whether(True, is_plain_base, table)

    def test_all_webs_of_few_places(self):
        for many in (2, 3, 4):
            for entries in itertools.product((-1, 0, 1), repeat=many * (many - 1) // 2):
                table = symmetric(many, lambda i, j: 0 if i == j else entries[i * (i - 1) // 2 + j])
                self.assertIs(is_plain_base(table), is_plain(table))

    def test_no_bases(self):
        root = (2, -1, 0)
        for wrong in not_plain():
            self.whether(False, is_plain_base, wrong)
            self.raises(BadWeb, wrong, height, wrong, root)
            self.raises(BadWeb, wrong, height, wrong, None)
            self.raises(BadWeb, wrong, heights, wrong)
            self.raises(BadWeb, wrong, greatest_root, wrong)
            self.raises(BadWeb, wrong, after_tour, wrong, root)
            self.raises(BadWeb, wrong, after_tour, wrong, None)
            self.raises(BadWeb, wrong, tour_lengths, wrong)

    def test_ends_of_exchanges(self):
        for table in (full_web(5), star_web(3), web(8, [(k, k + 1) for k in range(6)] + [(2, 7)])):
            for pair in row_to_base(table):
                self.whether(False, is_plain_base, table)
                table = exchanged(table, *pair)
            self.whether(True, is_plain_base, table)


class HeightTests(Case):
    def test_examples(self):
        self.same(heights(WAY), (3, 2, 1))
        self.same(greatest_root(WAY), (1, 0, 1))
        self.same(height(WAY, (2, -1, 0)), 1)
        self.same(height(WAY, (-1, 0, -1)), -3)
        self.same(heights(((0,),)), (1,))
        self.same(greatest_root(((0,),)), (2,))
        self.same(heights(zero_table(10)), (10,))
        self.same(greatest_root(zero_table(2)), None)

    def test_bases(self):
        rnd = seeded("heights")
        for table, kind in BASES:
            roots = all_roots(table)
            wanted = {}
            for root, row in roots.items():
                self.assertTrue(all(item >= 0 for item in row) or all(item <= 0 for item in row))
                wanted[root] = sum(row)
            for root in rnd.sample(sorted(roots), min(4, len(roots))) + [product_table(table)[0]]:
                self.same(self.told(height, table, root), wanted[root])
                self.same(height(table, tuple(-item for item in root)), -wanted[root])
            top = max(wanted.values())
            told = self.told(heights, table)
            self.same(told, tuple(sum(1 for found in wanted.values() if found == h) for h in range(1, top + 1)))
            self.assertEqual(2 * sum(told), len(roots))
            highest = [root for root in roots if wanted[root] == top]
            joined = len(helpers.parts_of(table)) == 1
            self.same(self.told(greatest_root, table), highest[0] if joined else None)
            if joined:
                # [10.5]
                self.assertEqual(len(highest), 1)
                many, g = len(table), tours(kind)
                self.assertEqual(told[0], many)
                self.assertEqual(len(roots), many * g)
                self.assertEqual(list(told), sorted(told, reverse=True))
                padded = told + (0,) * g
                self.assertTrue(all(padded[h - 1] + padded[g - h] == many for h in range(1, g + 1)))

    def test_steps_to_places(self):
        for table, _ in BASES:
            roots = all_roots(table)
            if len(roots) <= 40:
                places = {product_table(table)[place] for place in range(len(table))}
                for root, row in roots.items():
                    if sum(row) > 0:
                        ways = [shortest_mirrors(table, root, place) for place in places]
                        self.assertEqual(min(len(way) for way in ways if way is not None), sum(row) - 1)
                        if root not in places:
                            self.assertIn(sum(row) - 1, [sum(roots[moved(table, root, place)]) for place in range(len(table))])

    def test_wrong_roots(self):
        for table in (((0,),), WAY, zero_table(2)):
            roots = all_roots(table)
            root = sorted(roots)[0]
            for thing in any_values() + bent(root) + [(0,) * len(table), (3,) * len(table), list(root), (True,) * len(table)]:
                if not (helpers.is_row(table, thing) and thing in roots):
                    self.raises(BadRoot, thing, height, table, thing)
                    self.raises(BadRoot, thing, after_tour, table, thing)


class TourTests(Case):
    def test_examples(self):
        self.same(after_tour(WAY, (2, -1, 0)), (-1, 0, -1))
        self.same(tour_lengths(WAY), (4, 4, 4))
        self.same(tour_lengths(((0,),)), (2,))
        self.same(tour_lengths(zero_table(3)), (2, 2, 2))

    def test_bases(self):
        rnd = seeded("tours")
        for table, kind in BASES:
            roots = all_roots(table)
            for root in rnd.sample(sorted(roots), min(4, len(roots))):
                self.same(self.told(after_tour, table, root), toured(table, root))
            left, wanted = {*roots}, []
            while left:
                start = min(left)
                orbit = [start]
                while toured(table, orbit[-1]) != start:
                    orbit.append(toured(table, orbit[-1]))
                left -= {*orbit}
                wanted.append(len(orbit))
            told = self.told(tour_lengths, table)
            self.same(told, tuple(sorted(wanted)))
            self.assertEqual(sum(told), len(roots))
            if kind is not None:
                self.same(told, (tours(kind),) * len(table))

    def test_all_roots_come_back(self):
        # Behind so many tours, and not before, all roots are where they were.
        for kind in (("A", 4), ("D", 4), ("D", 5), ("E", 6)):
            table = kind_table(*kind)
            now = {root: root for root in all_roots(table)}
            for number in range(1, tours(kind) + 1):
                now = {root: toured(table, told) for root, told in now.items()}
                self.assertIs(all(root == told for root, told in now.items()), number == tours(kind))

    def test_parts(self):
        self.same(tour_lengths(beside(kind_table("A", 2), kind_table("D", 4))), (3, 3) + (6,) * 4)
        self.same(tour_lengths(kind_table("E", 8)), (30,) * 8)


if __name__ == "__main__":
    unittest.main()
