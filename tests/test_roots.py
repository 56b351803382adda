"""[3.1] to [3.3] and roots.py."""

import itertools
import unittest
from fractions import Fraction

from tests import helpers
from tests.helpers import (Case, any_values, bent, full_web, kind_table, random_signed, random_turning, ring_web, seeded,
                           star_web, symmetric, web, zero_table)
from withintwo.errors import BadRoot, BadWeb, TooLow
from withintwo.roots import base_of, is_root, parts_of_root, product_of, rank_of, roots_of, row_for

TWO = ((0, 1), (1, 0))
PATH = ((0, 1, 0), (1, 0, 1), (0, 1, 0))
PETERSEN = web(10, [(k, (k + 1) % 5) for k in range(5)] + [(k, k + 5) for k in range(5)]
               + [(5 + k, 5 + (k + 2) % 5) for k in range(5)])
PAIRS = list(itertools.combinations(range(5), 2))
# The ties of the full web of five places.
TRIANGLE = symmetric(10, lambda i, j: 0 if i == j else len({*PAIRS[i]} & {*PAIRS[j]}))
RINGED_E6 = web(7, [(0, 1), (1, 2), (2, 3), (3, 4), (2, 5), (5, 6)], -1)
RINGED_E7 = web(8, [(k, k + 1) for k in range(6)] + [(3, 7)])
RINGED_E8 = web(9, [(k, k + 1) for k in range(7)] + [(2, 8)], -1)


def e8_rows():
    """The root rows of [3.5] of the kind E8, doubled."""
    found = []
    for i, j in itertools.combinations(range(8), 2):
        for left, right in itertools.product((2, -2), repeat=2):
            found.append(tuple(left if k == i else right if k == j else 0 for k in range(8)))
    return found + [row for row in itertools.product((1, -1), repeat=8) if row.count(-1) % 2 == 0]


def web_of_rows(rows):
    return symmetric(len(rows), lambda i, j: 0 if i == j else sum(x * y for x, y in zip(rows[i], rows[j])) // 4)


def chosen(rnd, rows, many):
    """So many of some root rows, no two of them equal or opposite."""
    found = []
    while len(found) < many:
        row = rnd.choice(rows)
        if row not in found and tuple(-item for item in row) not in found:
            found.append(row)
    return found


def good_webs():
    """Good signed webs, those of a kind E8 with at most 8 places."""
    rnd = seeded("good webs")
    found = [((0,),), TWO, ((0, -1), (-1, 0)), PATH, zero_table(3), zero_table(10), full_web(10), full_web(5), star_web(4), star_web(3, -1),
             PETERSEN, TRIANGLE, RINGED_E6, RINGED_E7, ring_web(10), ring_web(10, -1), ring_web(9), ring_web(3, -1)]
    found += [kind_table("A", rank) for rank in range(1, 11)] + [kind_table("D", rank) for rank in range(4, 11)]
    found += [kind_table("E", rank) for rank in (6, 7, 8)]
    found += [helpers.beside(kind_table("A", 2), TWO, ((0,),)), helpers.beside(full_web(4), star_web(4)),
              helpers.beside(kind_table("E", 6), ring_web(3)), helpers.beside(kind_table("D", 4), kind_table("A", 3), TWO)]
    rows = e8_rows()
    plain = [row for row in rows if 0 in row]
    for many in range(1, 11):
        found.append(web_of_rows(chosen(rnd, plain, many)))
        found.append(web_of_rows(chosen(rnd, [row for row in plain if not any(row[5:])], many)))
        found.append(web_of_rows(chosen(rnd, [row for row in rows if row[7] == -row[6]], many)))
        if many <= 8:
            found.append(web_of_rows(chosen(rnd, rows, many)))
    return found


def great_webs():
    """Good signed webs of nine or ten places of the kind E8."""
    rnd = seeded("great webs")
    rows = e8_rows()
    return [RINGED_E8, helpers.beside(kind_table("E", 8), TWO)] + [web_of_rows(chosen(rnd, rows, 10)) for _ in range(2)]


def product_table(table):
    return symmetric(len(table), lambda i, j: 2 if i == j else table[i][j])


def all_roots(table):
    """A dict from each root to a row that tells it, by the steps of [3.2]."""
    products = product_table(table)
    many = len(table)
    found = {products[k]: tuple(int(i == k) for i in range(many)) for k in range(many)}
    waiting = list(found)
    while waiting:
        p = waiting.pop()
        for k in range(many):
            moved = tuple(x - p[k] * y for x, y in zip(p, products[k]))
            if moved not in found:
                found[moved] = tuple(x - (p[k] if i == k else 0) for i, x in enumerate(found[p]))
                waiting.append(moved)
    return found


def uppers_of(roots):
    return sorted(root for root in roots if next(item for item in root if item) > 0)


def base_among(roots):
    uppers = uppers_of(roots)
    sums = {tuple(x + y for x, y in zip(one, other)) for one in uppers for other in uppers}
    return tuple(root for root in uppers if root not in sums)


GOOD = [(table, all_roots(table)) for table in good_webs()]
GREAT = [(table, all_roots(table)) for table in great_webs()]
LOW = [star_web(5), star_web(9), star_web(5, -1), full_web(4, -1), full_web(10, -1), helpers.beside(TWO, star_web(5)),
       web(7, [(0, k) for k in range(1, 5)] + [(5, 6), (4, 5)])]
FUNCTIONS = [(roots_of, 0), (is_root, 1), (base_of, 0), (rank_of, 0), (row_for, 1), (product_of, 2), (parts_of_root, 1)]


def wrong_webs():
    things = any_values() + bent(PATH) + [((0, 2), (2, 0)), ((1,),), ((0, 1), (1, -1)), ((0, -2), (-2, 0)), zero_table(13),
                                          ((0, 1), (-1, 0)), ((2, 1), (1, 2)), ((0, True), (True, 0))]
    return [thing for thing in things if not helpers.is_signed_web(thing)]


class RootTests(Case):
    def test_examples(self):
        self.same(roots_of(TWO), ((-2, -1), (-1, -2), (-1, 1), (1, -1), (1, 2), (2, 1)))
        self.same(roots_of(((0,),)), ((-2,), (2,)))
        self.same(roots_of(zero_table(2)), ((-2, 0), (0, -2), (0, 2), (2, 0)))
        self.same(roots_of(((0, -1), (-1, 0))), ((-2, 1), (-1, -1), (-1, 2), (1, -2), (1, 1), (2, -1)))
        self.same(base_of(TWO), ((1, -1), (1, 2)))
        self.same(base_of(((0,),)), ((2,),))
        self.same(base_of(zero_table(2)), ((0, 2), (2, 0)))
        self.whether(False, is_root, TWO, (1, 1))
        self.whether(True, is_root, TWO, (2, 1))
        self.same(row_for(TWO, (1, -1)), (1, -1))
        self.same(product_of(TWO, (1, -1), (1, 2)), -1)
        self.same(parts_of_root(TWO, (2, 1)), (1, 1))
        self.same(parts_of_root(TWO, (-1, 1)), (-1, 0))

    def test_all_rows_of_few_places(self):
        # A root of at most three places is told by a row of small integers.
        webs = [((0,),), TWO, ((0, -1), (-1, 0)), zero_table(2)]
        webs += [symmetric(3, lambda i, j: 0 if i == j else signs[i + j - 1]) for signs in itertools.product((-1, 0, 1), repeat=3)]
        for table in webs:
            products = product_table(table)
            wanted = sorted({helpers.image(products, row) for row in itertools.product(range(-3, 4), repeat=len(table))
                             if helpers.weight(products, row) == 2})
            self.same(roots_of(table), tuple(wanted))
            for thing in itertools.product(range(-3, 4), repeat=len(table)):
                self.whether(thing in wanted, is_root, table, thing)

    def test_roots(self):
        for table, roots in GOOD:
            self.same(self.told(roots_of, table), tuple(sorted(roots)))

    def test_roots_come_by_mirrors(self):
        for table, _ in GOOD:
            if len(table) <= 6:
                told = roots_of(table)
                rows = {root: row_for(table, root) for root in told}
                for row in product_table(table):
                    self.assertIn(row, told)
                for p in told:
                    for q in told:
                        m = sum(x * y for x, y in zip(rows[p], q))
                        self.assertEqual(m, 2 if p == q else -2 if p == tuple(-x for x in q) else m)
                        self.assertTrue(abs(m) <= 1 or p in (q, tuple(-x for x in q)))
                        self.assertIn(tuple(x - m * y for x, y in zip(p, q)), told)

    def test_items_of_roots(self):
        for table, _ in GOOD:
            parts = helpers.parts_of(table)
            for root in roots_of(table):
                self.assertTrue(all(-2 <= item <= 2 for item in root))
                self.assertEqual(sum(any(root[place] for place in part) for part in parts), 1)

    def test_numbers_of_roots(self):
        for rank in range(1, 11):
            self.assertEqual(len(roots_of(kind_table("A", rank))), rank * (rank + 1))
            self.assertEqual(rank_of(kind_table("A", rank)), rank)
        for rank in range(4, 11):
            self.assertEqual(len(roots_of(kind_table("D", rank))), 2 * rank * (rank - 1))
            self.assertEqual(rank_of(kind_table("D", rank)), rank)
        for rank, many in ((6, 72), (7, 126), (8, 240)):
            self.assertEqual(len(roots_of(kind_table("E", rank))), many)
            self.assertEqual(rank_of(kind_table("E", rank)), rank)
        for table, many, rank in ((ring_web(4), 12, 3), (star_web(4), 24, 4), (PETERSEN, 72, 6), (RINGED_E6, 72, 6),
                                  (RINGED_E7, 126, 7), (zero_table(10), 20, 10), (full_web(10), 110, 10),
                                  (TRIANGLE, 40, 5), (helpers.beside(kind_table("A", 2), TWO), 12, 4)):
            self.assertEqual(len(roots_of(table)), many, table)
            self.assertEqual(rank_of(table), rank, table)
        for table, _ in GREAT[1:2]:
            self.assertEqual(rank_of(table), 10)
        self.assertEqual(rank_of(RINGED_E8), 8)

    def test_bases(self):
        for table, roots in GOOD:
            told = self.told(base_of, table)
            self.same(told, base_among(roots))
            products = product_table(table)
            for one in told:
                for other in told:
                    product = sum(x * y for x, y in zip(roots[one], other))
                    self.assertIn(product, (2,) if one == other else (-1, 0))
            self.same(self.told(rank_of, table), len(told))
            self.assertEqual(len(told), helpers.rank(products))
            self.assertEqual(len(told), len(table) - helpers.inertia(table, Fraction(-2))[1])

    def test_ranks_of_great_webs(self):
        for table, _ in GREAT:
            self.same(self.told(rank_of, table), helpers.rank(product_table(table)))

    def test_turned_webs(self):
        rnd = seeded("turned roots")
        for table, roots in GOOD:
            if len(table) <= 6:
                turning = random_turning(rnd, len(table))
                other = helpers.led(table, turning)
                self.same(roots_of(other), tuple(sorted(helpers.row_led(turning, root) for root in roots)))
                self.same(rank_of(other), rank_of(table))


class OneRootTests(Case):
    def some_roots(self, roots, many=8):
        rnd = seeded(f"some of {len(roots)} roots")
        return rnd.sample(sorted(roots), min(many, len(roots)))

    def test_rows(self):
        for table, roots in GOOD + GREAT:
            products = product_table(table)
            for root in self.some_roots(roots):
                told = self.told(row_for, table, root)
                self.assertTrue(helpers.is_row(table, told))
                self.assertTrue(all(abs(item) < 10 ** 1000 for item in told))
                self.same(helpers.image(products, told), root)
                self.assertEqual(helpers.weight(products, told), 2)
                self.assertEqual(helpers.weight(table, told) + 2 * helpers.square(told), 2)

    def test_products(self):
        for table, roots in GOOD + GREAT:
            for one in self.some_roots(roots, 3):
                opposite = tuple(-item for item in one)
                self.same(product_of(table, one, one), 2)
                self.same(product_of(table, one, opposite), -2)
                for other in self.some_roots(roots, 4):
                    wanted = sum(x * y for x, y in zip(roots[one], other))
                    self.same(self.told(product_of, table, one, other), wanted)
                    self.same(product_of(table, other, one), wanted)

    def test_products_of_places(self):
        for table, _ in GOOD[:20]:
            products = product_table(table)
            for i in range(min(4, len(table))):
                for j in range(len(table)):
                    self.same(product_of(table, products[i], products[j]), products[i][j])

    def test_parts_of_roots(self):
        for table, roots in GOOD + GREAT:
            base = base_among(roots)
            for root in self.some_roots(roots) + [base[0], base[-1]]:
                told = self.told(parts_of_root, table, root)
                self.assertTrue(helpers.are_ints(told, len(base)))
                total = tuple(sum(part * step[at] for part, step in zip(told, base)) for at in range(len(table)))
                self.same(total, root)
                upper = next(item for item in root if item) > 0
                self.assertTrue(all(part >= 0 if upper else part <= 0 for part in told))
                self.same(parts_of_root(table, tuple(-item for item in root)), tuple(-part for part in told))
            for at, step in enumerate(base):
                self.same(parts_of_root(table, step), tuple(int(k == at) for k in range(len(base))))

    def test_greatest_parts(self):
        # The greatest root of E8 has the parts 2, 3, 4, 6, 5, 4, 3, 2 in some order.
        table, roots = next((table, roots) for table, roots in GOOD if table == kind_table("E", 8))
        found = max((parts_of_root(table, root) for root in self.some_roots(roots, 60)), key=sum)
        self.assertLessEqual(sum(found), 29)
        tops = [parts_of_root(kind_table("A", 4), root) for root in roots_of(kind_table("A", 4))]
        self.assertEqual(max(tops), (1, 1, 1, 1))
        self.assertEqual(sorted(max((parts_of_root(kind_table("D", 4), root) for root in roots_of(kind_table("D", 4))),
                                    key=sum)), [1, 1, 1, 2])

    def test_is_root(self):
        for table, roots in GOOD + GREAT:
            for root in self.some_roots(roots, 2):
                self.whether(True, is_root, table, root)
                self.whether(False, is_root, table, list(root))
                self.whether(False, is_root, table, root + (0,))
                self.whether(False, is_root, table, root[:-1])
                for at in range(len(root))[::1 if len(root) <= 4 else 4]:
                    for item in (-2, -1, 0, 1, 2, 3):
                        thing = root[:at] + (item,) + root[at + 1:]
                        self.assertIs(is_root(table, thing), thing in roots, (table, thing))
                    thing = root[:at] + (bool(root[at]),) + root[at + 1:]
                    self.assertIs(is_root(table, thing), False, (table, thing))
            self.whether(False, is_root, table, (0,) * len(table))

    def test_any_value_as_root(self):
        for table in (((0,),), TWO, PATH, ring_web(4), zero_table(2), kind_table("D", 4)):
            roots = all_roots(table)
            right = sorted(roots)[-1]
            things = any_values() + [(0,) * len(table), (1,) * len(table), (3,) * len(table), (True,) * len(table)]
            for root in sorted(roots)[:3]:
                things += bent(root)
            for thing in things:
                wanted = helpers.is_row(table, thing) and thing in roots
                self.assertIs(is_root(table, thing), wanted, (table, thing))
                if not wanted:
                    self.raises(BadRoot, thing, row_for, table, thing)
                    self.raises(BadRoot, thing, parts_of_root, table, thing)
                    self.raises(BadRoot, thing, product_of, table, thing, right)
                    self.raises(BadRoot, thing, product_of, table, right, thing)
                    self.raises(BadRoot, thing, product_of, table, thing, None)
                    self.raises(BadRoot, [], product_of, table, [], thing)


class WebErrorTests(Case):
    def test_bad_webs(self):
        for wrong in wrong_webs():
            for function, many in FUNCTIONS:
                self.raises(BadWeb, wrong, function, wrong, *[None] * many)
                self.raises(BadWeb, wrong, function, wrong, *[(2,)] * many)

    def low(self, table, function, *arguments):
        error = self.raised(function, table, *arguments)
        self.assertIs(type(error), TooLow)
        self.assertTrue(helpers.is_row(table, error.row))
        self.assertTrue(all(abs(item) < 10 ** 1000 for item in error.row))
        self.assertLess(helpers.weight(table, error.row), -2 * helpers.square(error.row))

    def test_webs_that_are_not_good(self):
        for table in LOW:
            for function, many in FUNCTIONS:
                self.low(table, function, *[None] * many)
                self.low(table, function, *[product_table(table)[0]] * many)

    def test_good_exactly_if_never_below(self):
        rnd = seeded("good or not")
        for many in range(1, 11):
            for part in (1, 2, 3, 4, 6):
                for _ in range(3):
                    table = random_signed(rnd, many, part)
                    if helpers.inertia(table, Fraction(-2))[0] > 0:
                        for function, more in FUNCTIONS:
                            self.low(table, function, *[None] * more)
                    else:
                        self.same(rank_of(table), helpers.rank(product_table(table)))
                        self.whether(True, is_root, table, product_table(table)[0])

    def test_webs_at_the_bound(self):
        # These have the value -2; one more tie or place leads below it.
        for table in (star_web(4), ring_web(4), ring_web(10), ring_web(9, -1), RINGED_E6, RINGED_E7, RINGED_E8, PETERSEN, TRIANGLE):
            self.assertLess(self.told(rank_of, table), len(table))
        for table in (web(6, [(0, k) for k in range(1, 6)]), web(10, [(k, k + 1) for k in range(8)] + [(2, 9)], -1),
                      full_web(4, -1)):
            self.low(table, rank_of)


if __name__ == "__main__":
    unittest.main()
