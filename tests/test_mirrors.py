"""[10.1] to [10.3] and mirrors.py."""

import itertools
import unittest
from fractions import Fraction

from tests import helpers
from tests.helpers import (Case, any_values, beside, bent, full_web, kind_table, random_signed, ring_web, seeded, star_web, symmetric, web,
                           zero_table)
from tests.test_roots import GOOD, LOW, PATH, TWO, all_roots, product_table, wrong_webs
from withintwo.errors import BadPlace, BadRoot, BadWeb
from withintwo.kinds import kinds_of
from withintwo.mirrors import exchanged, mirrored, mirrored_by, row_to_base, row_to_base_holds, shortest_mirrors
from withintwo.roots import product_of, roots_of

ONE = ((0,),)
# Its values are 1, 1 and -2: exchanging a place by another one makes two roots equal or opposite.
BENT = ring_web(3, -1)
SMALL = [table for table, _ in GOOD if len(table) <= 4] + [BENT, ((0, -1), (-1, 0)), beside(ONE, TWO), beside(TWO, TWO)]
MIDDLE = [(table, roots) for table, roots in GOOD if len(roots) <= 130]


def moved(table, root, place):
    """The words of [10.1]."""
    products = product_table(table)
    return tuple(root[i] - root[place] * products[place][i] for i in range(len(table)))


def exchanged_by_hand(table, i, j):
    """The words of [10.2]."""
    products = [list(row) for row in product_table(table)]
    found = [list(row) for row in products]
    for k in range(len(table)):
        if k != i:
            found[i][k] = found[k][i] = products[i][k] - products[i][j] * products[j][k]
    if any(abs(found[k][m]) > 1 for k in range(len(table)) for m in range(k)):
        return None
    return symmetric(len(table), lambda k, m: 0 if k == m else found[k][m])


def is_plain(table):
    return all(entry != 1 for row in table for entry in row) and helpers.inertia(table, Fraction(-2))[2] == len(table)


def is_right_row(table, thing):
    """The words about row_to_base."""
    if type(thing) is not tuple:
        return False
    for pair in thing:
        if not helpers.are_ints(pair, 2) or not all(0 <= place < len(table) for place in pair) or pair[0] == pair[1]:
            return False
        table = exchanged_by_hand(table, *pair)
        if table is None:
            return False
    return is_plain(table)


def distances_to(table, other):
    """From how far each root is led to another one; mirrors lead back as they lead on."""
    found = {other: 0}
    waiting = [other]
    for root in waiting:
        for place in range(len(table)):
            if moved(table, root, place) not in found:
                found[moved(table, root, place)] = found[root] + 1
                waiting.append(moved(table, root, place))
    return found


def first_shortest(table, one, other):
    far = distances_to(table, other)
    if one not in far:
        return None
    found = []
    while one != other:
        place = next(k for k in range(len(table)) if far[moved(table, one, k)] == far[one] - 1)
        found.append(place)
        one = moved(table, one, place)
    return tuple(found)


class MirrorTests(Case):
    def test_examples(self):
        self.same(mirrored(TWO, (2, 1), 1), (1, -1))
        self.same(mirrored_by(TWO, (2, 1), (1, 0)), (-1, -2))
        self.same(shortest_mirrors(TWO, (2, 1), (1, 2)), (0, 1, 0))
        self.same(mirrored(ONE, (2,), 0), (-2,))
        self.same(mirrored_by(TWO, (2, 1), ()), (2, 1))

    def test_mirrored(self):
        rnd = seeded("mirrored")
        for table, roots in GOOD:
            known = sorted(roots)
            for root in known if len(known) <= 24 else rnd.sample(known, 4):
                for place in range(len(table)):
                    told = self.told(mirrored, table, root, place) if len(known) <= 24 else mirrored(table, root, place)
                    self.same(told, moved(table, root, place))
                    self.assertIn(told, roots)
                    self.same(moved(table, told, place), root)

    def test_products_stay(self):
        rnd = seeded("products stay")
        for table, roots in MIDDLE[::2]:
            for _ in range(3):
                one, other = rnd.choice(list(roots)), rnd.choice(list(roots))
                place = rnd.randrange(len(table))
                self.assertEqual(product_of(table, mirrored(table, one, place), mirrored(table, other, place)), product_of(table, one, other))

    def test_mirrored_by(self):
        rnd = seeded("mirrored by")
        for table, roots in GOOD[::2]:
            root = rnd.choice(list(roots))
            for many in (0, 1, 2, 7, 40):
                places = tuple(rnd.randrange(len(table)) for _ in range(many))
                wanted = root
                for place in places:
                    wanted = moved(table, wanted, place)
                self.same(self.told(mirrored_by, table, root, places), wanted)
                self.same(mirrored_by(table, wanted, places[::-1]), root)

    def test_errors(self):
        for wrong in wrong_webs():
            self.raises(BadWeb, wrong, mirrored, wrong, None, None)
            self.raises(BadWeb, wrong, mirrored_by, wrong, None, None)
            self.raises(BadWeb, wrong, shortest_mirrors, wrong, None, None)
            self.raises(BadWeb, wrong, exchanged, wrong, None, None)
            self.raises(BadWeb, wrong, row_to_base, wrong)
            self.raises(BadWeb, wrong, row_to_base_holds, wrong, None)
        for table in LOW:
            self.too_low(table, mirrored, None, None)
            self.too_low(table, mirrored_by, None, (None,))
            self.too_low(table, shortest_mirrors, None, None)
            self.too_low(table, exchanged, None, None)
            self.too_low(table, row_to_base)
            self.too_low(table, row_to_base_holds, ())
            self.too_low(table, row_to_base_holds, None)

    def test_wrong_roots_and_places(self):
        for table in (ONE, TWO, PATH, beside(ONE, TWO)):
            roots = all_roots(table)
            root = sorted(roots)[0]
            things = any_values() + bent(root) + [(0,) * len(table), (1,) * len(table), (3,) * len(table), list(root), tuple(map(bool, root))]
            for thing in things:
                if not (helpers.is_row(table, thing) and thing in roots):
                    self.raises(BadRoot, thing, mirrored, table, thing, 0)
                    self.raises(BadRoot, thing, mirrored, table, thing, None)
                    self.raises(BadRoot, thing, mirrored_by, table, thing, ())
                    self.raises(BadRoot, thing, mirrored_by, table, thing, (0, None))
                    self.raises(BadRoot, thing, shortest_mirrors, table, thing, root)
                    self.raises(BadRoot, thing, shortest_mirrors, table, thing, [thing])
                    self.raises(BadRoot, thing, shortest_mirrors, table, root, thing)
            for thing in any_values() + bent(0) + [len(table), -1, True, False, (0,), "0", None]:
                if not (type(thing) is int and 0 <= thing < len(table)):
                    self.raises(BadPlace, thing, mirrored, table, root, thing)
                    for places in ((thing,), (0, thing), (0, thing, -1), (thing, None), (0,) * 9 + (thing,) * 2):
                        self.raises(BadPlace, thing, mirrored_by, table, root, places)


class ShortestTests(Case):
    def test_by_all_tuples(self):
        for table in [table for table in SMALL if len(table) <= 3]:
            roots = sorted(all_roots(table))
            for one, other in itertools.product(roots, repeat=2):
                wanted = None
                for length in range(6):
                    for places in itertools.product(range(len(table)), repeat=length):
                        root = one
                        for place in places:
                            root = moved(table, root, place)
                        if root == other:
                            wanted = places
                            break
                    if wanted is not None:
                        break
                told = shortest_mirrors(table, one, other)
                self.assertTrue(told == wanted or (wanted is None and len(told) > 5), (table, one, other, told, wanted))

    def test_by_distances(self):
        rnd = seeded("shortest mirrors")
        nones = 0
        for table, roots in GOOD:
            for _ in range(3):
                one, other = rnd.choice(sorted(roots)), rnd.choice(sorted(roots))
                told = self.told(shortest_mirrors, table, one, other)
                self.same(told, first_shortest(table, one, other), (table, one, other))
                if told is not None:
                    self.same(mirrored_by(table, one, told), other)
                nones += told is None
            self.same(shortest_mirrors(table, one, one), ())
            # A root and its opposite belong to one part.
            self.assertIsNotNone(shortest_mirrors(table, one, tuple(-item for item in one)))
        self.assertGreater(nones, 5)

    def test_parts(self):
        for table, roots in MIDDLE:
            parts = helpers.parts_of(table)
            for root in sorted(roots)[::7]:
                own = [part for part in parts if any(root[place] for place in part)]
                self.assertEqual(len(own), 1)
                for part in parts:
                    place = product_table(table)[part[0]]
                    self.assertIs(shortest_mirrors(table, root, place) is not None, part == own[0])


class ExchangeTests(Case):
    def check(self, table, i, j):
        told = self.told(exchanged, table, i, j)
        self.same(told, exchanged_by_hand(table, i, j), (table, i, j))
        if told is not None:
            self.same(exchanged(told, i, j), table)
            self.assertTrue(helpers.is_good(told))
        return told

    def test_examples(self):
        self.same(exchanged(TWO, 0, 1), ((0, -1), (-1, 0)))
        self.same(exchanged(PATH, 0, 2), PATH)
        self.same(exchanged(BENT, 0, 1), exchanged_by_hand(BENT, 0, 1))
        self.raises(BadPlace, 0, exchanged, TWO, 0, 0)

    def test_all_pairs(self):
        fails = 0
        for table in SMALL + [table for table, _ in GOOD[::3]]:
            for i, j in itertools.permutations(range(len(table)), 2):
                fails += self.check(table, i, j) is None
        self.assertGreater(fails, 10)

    def test_signed_webs_of_three_places(self):
        for entries in itertools.product((-1, 0, 1), repeat=3):
            table = symmetric(3, lambda i, j: 0 if i == j else entries[i + j - 1])
            if helpers.is_good(table):
                for i, j in itertools.permutations(range(3), 2):
                    told = self.check(table, i, j)
                    # It fails only where a value is -2.
                    self.assertTrue(told is not None or helpers.inertia(table, Fraction(-2))[1] > 0)

    def test_kinds_and_roots_stay(self):
        rnd = seeded("exchanged kinds")
        for table, roots in MIDDLE[::2]:
            for _ in range(3):
                if len(table) > 1:
                    told = exchanged(table, *rnd.sample(range(len(table)), 2))
                    if told is not None:
                        self.assertEqual(len(roots_of(told)), len(roots))
                        self.same(tuple(sorted(kinds_of(told))), tuple(sorted(kinds_of(table))))
                        table = told

    def test_wrong_places(self):
        for table in (ONE, TWO, PATH, beside(TWO, ONE)):
            many = len(table)
            for thing in any_values() + bent(1) + [many, -1, True, False, (0,), "0", None]:
                if not (type(thing) is int and 0 <= thing < many):
                    self.raises(BadPlace, thing, exchanged, table, thing, 0)
                    self.raises(BadPlace, thing, exchanged, table, thing, None)
                    self.raises(BadPlace, thing, exchanged, table, 0, thing)
            for place in range(many):
                self.raises(BadPlace, place, exchanged, table, place, place)


class BaseTests(Case):
    def check(self, table):
        told = self.told(row_to_base, table)
        above = helpers.inertia(table, Fraction(-2))[2] == len(table)
        self.assertIs(told is not None, above, table)
        if told is not None:
            self.assertTrue(is_right_row(table, told), (table, told))
            self.whether(True, row_to_base_holds, table, told)
        return told

    def test_examples(self):
        self.whether(True, row_to_base_holds, TWO, ((0, 1),))
        self.whether(False, row_to_base_holds, TWO, ())
        self.whether(True, row_to_base_holds, ONE, ())
        self.whether(True, row_to_base_holds, kind_table("E", 8), ())
        self.same(row_to_base(BENT), None)

    def test_good_webs(self):
        found = [self.check(table) for table, _ in GOOD]
        self.assertTrue(min(found.count(None), len(found) - found.count(None)) > 15)

    def test_signed_webs(self):
        for many in (2, 3, 4):
            for entries in itertools.islice(itertools.product((-1, 0, 1), repeat=many * (many - 1) // 2), 0, None, 1 if many < 4 else 5):
                table = symmetric(many, lambda i, j: 0 if i == j else entries[i * (i - 1) // 2 + j])
                if helpers.is_good(table):
                    self.check(table)
        rnd = seeded("rows to bases")
        for many in (5, 6, 7, 8, 9, 10):
            found = 0
            while found < 4:
                table = random_signed(rnd, many, 4)
                if helpers.is_good(table):
                    self.check(table)
                    found += 1
        for table in (full_web(10), star_web(3), beside(full_web(5), full_web(5)), web(10, [(k, k + 1) for k in range(9)]), zero_table(10)):
            self.assertIsNotNone(self.check(table))

    def test_kinds_of_the_base(self):
        for table, _ in MIDDLE:
            told = row_to_base(table)
            if told is not None:
                web_now = table
                for pair in told:
                    web_now = exchanged(web_now, *pair)
                self.same(tuple(sorted(kinds_of(web_now))), tuple(sorted(kinds_of(table))))

    def test_holds(self):
        rnd = seeded("rows to bases bent")
        for table in [table for table, _ in GOOD if len(table) > 1][::3] + [BENT, PATH, star_web(3), full_web(4)]:
            told = row_to_base(table)
            many = len(table)
            rows = [(), told, ((0, 1),), ((0, 1), (0, 1)), ((1, 0),), ((0, 0),), ((0, many),), ((-1, 0),)]
            if told is not None:
                pair = tuple(rnd.sample(range(many), 2))
                rows += [told + (pair, pair), (pair, pair) + told, told[:-1], told[1:], told[::-1], told + told[-1:], told + (pair,), list(told),
                         told + ((0, 0),), told + ((False, True),), told + ([0, 1],), told + ((0, 1, 1),), told + (None,), told + (0, 1), told * 2,
                         tuple(pair[::-1] for pair in told), told + ((0, many),)]
            rows += [tuple(tuple(rnd.sample(range(many), 2)) for _ in range(rnd.randrange(5))) for _ in range(10)]
            for row in rows:
                self.whether(is_right_row(table, row), row_to_base_holds, table, row)

    def test_long_rows(self):
        self.whether(True, row_to_base_holds, TWO, ((0, 1),) * 901)
        self.whether(False, row_to_base_holds, TWO, ((0, 1),) * 900)
        self.whether(False, row_to_base_holds, BENT, ((0, 1),) * 900)

    def test_any_value(self):
        for table in (ONE, TWO, PATH, ((0, -1), (-1, 0)), BENT):
            for thing in any_values() + bent(((0, 1),)) + bent(((0, 1), (1, 0))):
                self.assertIs(row_to_base_holds(table, thing), is_right_row(table, thing), (table, thing))


if __name__ == "__main__":
    unittest.main()
