"""[7.6] and rounds.py."""

import itertools
import unittest
from fractions import Fraction

from tests import helpers
from tests.helpers import Case, any_values, beside, bent, full_web, kind_table, random_table, random_turning, ring_web, seeded, star_web, web, zero_table
from tests.test_between import SEATED, WEBS, all_looped_webs, by_values, is_beyond_row, looped, wrong_looped_webs
from tests.test_greatest import greatest_by_hand
from withintwo.between import is_between
from withintwo.errors import BadNumber, BadTable, BadWeb, Beyond
from withintwo.rounds import ring_polynomial, round_polynomial, rounds_hold, rounds_of

THREE = full_web(3)
PAIR = ((0, 1), (1, 0))


def product_of_polys(one, other):
    found = [0] * (len(one) + len(other) - 1)
    for i, x in enumerate(one):
        for j, y in enumerate(other):
            found[i + j] += x * y
    return tuple(found)


def all_rings():
    """The ring polynomials from 1 to 100, by the words of [7.6]: each leaves t ** m - 1 its elder divisors' product."""
    found = {}
    for m in range(1, 101):
        elder = (1,)
        for d in range(1, m):
            if m % d == 0:
                elder = product_of_polys(elder, found[d])
        rest, quotient = [-1] + [0] * (m - 1) + [1], []
        while len(rest) >= len(elder):
            top = rest[-1]
            quotient.append(top)
            for at in range(len(elder)):
                rest[len(rest) - len(elder) + at] -= top * elder[at]
            rest.pop()
        assert not any(rest)
        found[m] = tuple(quotient[::-1])
    return found


RINGS = all_rings()


def multiplied(numbers):
    found = (1,)
    for number in numbers:
        found = product_of_polys(found, RINGS[number])
    return found


def value_of(poly, point):
    found = Fraction(0)
    for coefficient in poly[::-1]:
        found = found * point + coefficient
    return found


def is_round_polynomial(table, poly):
    """Whether a polynomial of the degree 2 n agrees with t ** n det(t + 1 / t - A) at more points than its degree."""
    many = len(table)
    if not helpers.are_ints(poly, 2 * many + 1):
        return False
    for point in [Fraction(k) for k in range(1, 2 * many + 2)]:
        moved = [[-entry for entry in row] for row in helpers.less(table, point + 1 / point)]
        if value_of(poly, point) != point ** many * helpers.determinant(moved):
            return False
    return True


def cut(table, poly):
    """The polynomial divided by the ring polynomials as long as one divides it; they are told, too."""
    numbers = []
    for number in range(1, 101):
        ring = RINGS[number]
        while True:
            rest, quotient = list(poly), []
            while len(rest) >= len(ring):
                top = rest[-1]
                quotient.append(top)
                for at in range(len(ring)):
                    rest[len(rest) - len(ring) + at] -= top * ring[at]
                rest.pop()
            if any(rest) or not quotient:
                break
            poly = quotient[::-1]
            numbers.append(number)
    return tuple(numbers), len(poly) - 1


class RingTests(Case):
    def test_examples(self):
        self.same(ring_polynomial(6), (1, -1, 1))
        self.same(ring_polynomial(1), (-1, 1))
        self.same(ring_polynomial(2), (1, 1))
        self.same(ring_polynomial(12), (1, 0, -1, 0, 1))

    def test_all(self):
        for number in range(1, 101):
            self.same(self.told(ring_polynomial, number), RINGS[number])

    def test_products(self):
        for m in range(1, 101):
            found = (1,)
            for d in range(1, m + 1):
                if m % d == 0:
                    found = product_of_polys(found, ring_polynomial(d))
            self.same(found, (-1,) + (0,) * (m - 1) + (1,))

    def test_wrong_numbers(self):
        things = any_values() + bent(5) + bent(100) + [0, -1, 101, 102, 10 ** 50, True, False, "1", "6", 1.0, (6,), [6], None]
        for thing in things:
            if not (type(thing) is int and 1 <= thing <= 100):
                self.raises(BadNumber, thing, ring_polynomial, thing)


class RoundPolynomialTests(Case):
    def test_examples(self):
        self.same(round_polynomial(PAIR), (1, 0, 1, 0, 1))
        self.same(round_polynomial(((0,),)), (1, 0, 1))
        self.same(round_polynomial(((5,),)), (1, -5, 1))
        self.same(round_polynomial(((1,),)), (1, -1, 1))

    def test_tables(self):
        rnd = seeded("round polynomials")
        tables = [random_table(rnd, many, top) for many in range(1, 6) for top in (1, 3, 1000)] + WEBS[::6]
        for table in tables + [zero_table(10), ring_web(10, -1), random_table(rnd, 10, 1), random_table(rnd, 8, 100)]:
            told = self.told(round_polynomial, table)
            self.assertTrue(is_round_polynomial(table, told), table)
            self.same(told, told[::-1])

    def test_wrong_tables(self):
        for thing in any_values() + bent(PAIR) + [zero_table(13), ((0, 1), (2, 0)), ((True,),), [[0]]]:
            if not helpers.is_table(thing):
                self.raises(BadTable, thing, round_polynomial, thing)
                self.raises(BadTable, thing, rounds_hold, thing, (1, 1))
                self.raises(BadTable, thing, rounds_hold, thing, None)


class RoundTests(Case):
    def check(self, table):
        told = self.told(rounds_of, table)
        self.assertTrue(helpers.are_ints(told) and list(told) == sorted(told) and all(1 <= number <= 100 for number in told))
        self.same(multiplied(told), round_polynomial(table))
        self.assertEqual(sum(len(RINGS[number]) - 1 for number in told), 2 * len(table))
        self.assertEqual((told.count(1) % 2, told.count(2) % 2), (0, 0))
        # 2 is a value as often as half of the rounds are 1, and -2 likewise with 2.
        self.assertEqual(told.count(1) // 2, helpers.inertia(table, Fraction(2))[1])
        self.assertEqual(told.count(2) // 2, helpers.inertia(table, Fraction(-2))[1])
        self.whether(True, rounds_hold, table, told)
        return told

    def test_examples(self):
        self.same(rounds_of(PAIR), (3, 6))
        self.same([rounds_of(table) for table in (((0,),), ((1,),), ((-1,),), THREE)], [(4,), (6,), (3,), (1, 1, 3, 3)])
        self.whether(True, rounds_hold, THREE, (3, 1, 3, 1))

    def test_between_is_a_product(self):
        seen = []
        for table in list(all_looped_webs(1)) + list(all_looped_webs(2)) + list(all_looped_webs(3))[::3] + WEBS:
            numbers, left = cut(table, round_polynomial(table))
            seen.append(left == 0)
            self.assertIs(is_between(table), left == 0)
            if left == 0:
                self.same(self.check(table), numbers)
            else:
                error = self.raised(rounds_of, table)
                self.assertIs(type(error), Beyond)
                self.assertTrue(is_beyond_row(table, error.row))
                self.whether(False, rounds_hold, table, numbers)
                self.whether(False, rounds_hold, table, numbers + (1,) * left)
        self.assertTrue(min(seen.count(True), seen.count(False)) > 50)

    def test_cut_out_of_greatest_tables(self):
        for table in SEATED[::2]:
            self.check(table)

    def test_ways_and_rings(self):
        for many in range(1, 11):
            # The round polynomial of a way is t ** (2 n + 2) - 1 divided by t * t - 1.
            way = web(many, [(k, k + 1) for k in range(many - 1)])
            self.same(self.check(way), tuple(d for d in range(3, 2 * many + 3) if (2 * many + 2) % d == 0))
        for many in range(3, 11):
            divisors = [d for d in range(1, many + 1) if many % d == 0]
            self.same(self.check(ring_web(many)), tuple(sorted(divisors * 2)))

    def test_ten_places(self):
        e8 = kind_table("E", 8)
        self.same(self.check(e8), (60,))
        self.same(self.check(kind_table("E", 7)), (4, 36))
        self.same(self.check(kind_table("E", 6)), (3, 6, 24))
        for table in (beside(e8, PAIR), beside(e8, ((1,),), ((-1,),)), zero_table(10), beside(star_web(4), ring_web(5, -1)),
                      looped(zero_table(10), (1, -1) * 5), beside(greatest_by_hand(("S", 7, 1)), THREE), greatest_by_hand(("C", 5, 1, -1)),
                      greatest_by_hand(("T", 5)), beside(greatest_by_hand(("S", 8, 1)), ((1, 1), (1, 1)))):
            self.check(table)

    def test_greatest_tables(self):
        for name in (("T", 3), ("T", 4), ("C", 2, 1, 1), ("C", 2, 1, -1), ("C", 5, -1, -1), ("S", 7, 1), ("S", 7, -1), ("S", 8, 0), ("S", 8, 1)):
            self.assertTrue({*self.check(greatest_by_hand(name))} <= {1, 2})

    def test_parts_and_turnings(self):
        rnd = seeded("rounds of parts")
        fours = [table for table in SEATED if len(table) <= 4]
        for one, other in zip(fours[::3], fours[1::4]):
            table = beside(one, other)
            self.same(rounds_of(table), tuple(sorted(rounds_of(one) + rounds_of(other))))
            self.same(rounds_of(helpers.led(table, random_turning(rnd, len(table)))), rounds_of(table))

    def test_wrong_webs(self):
        for wrong in wrong_looped_webs():
            self.raises(BadWeb, wrong, rounds_of, wrong)


class HoldTests(Case):
    def check(self, table, thing):
        right = type(thing) is tuple and all(type(item) is int and 1 <= item <= 100 for item in thing)
        right = right and len(thing) <= 2 * len(table) and multiplied(thing) == round_polynomial(table)
        self.whether(right, rounds_hold, table, thing)
        return right

    def test_orders(self):
        for table in (THREE, PAIR, star_web(4), ring_web(5), ((1,),), beside(PAIR, ((1,),))):
            told = rounds_of(table)
            for order in {*itertools.permutations(told[:5])}:
                self.assertTrue(self.check(table, order + told[5:]))
            for at in range(len(told)):
                self.assertFalse(self.check(table, told[:at] + told[at + 1:]))
                self.assertFalse(self.check(table, told[:at] + told[at:at + 1] * 2 + told[at + 1:]))
                for number in (0, 101, -1, told[at] + 1, True, None, "1", (1,), 1.0, 10 ** 99):
                    self.assertFalse(self.check(table, told[:at] + (number,) + told[at + 1:]))
            for number in (0, 101, 1, 2, 3, 100):
                self.assertFalse(self.check(table, told + (number,)))
            self.assertFalse(self.check(table, list(told)))
            self.assertFalse(self.check(table, ()))

    def test_tables_that_are_no_looped_webs(self):
        for whole, wanted in ((2, (1, 1)), (-2, (2, 2)), (1, (6,)), (0, (4,)), (-1, (3,))):
            self.assertTrue(self.check(((whole,),), wanted))
        self.assertTrue(self.check(((2, 0), (0, -2)), (2, 1, 2, 1)))
        self.assertTrue(self.check(((1, 1), (1, 0)), (10,)))
        self.assertTrue(self.check(((0, 2), (2, 0)), (1, 1, 2, 2)))
        for table in (((3,),), ((0, 3), (3, 0)), ((2, 1), (1, 2))):
            for numbers in itertools.chain(*[itertools.combinations_with_replacement(range(1, 13), many) for many in (0, 1, 2, 3)]):
                self.assertFalse(rounds_hold(table, numbers))

    def test_all_small_tuples(self):
        for table in (PAIR, ((1,),), ((1, 1), (1, 1)), zero_table(2), ((0, 1), (1, 1))):
            right = [numbers for many in range(5) for numbers in itertools.product(range(1, 13), repeat=many) if rounds_hold(table, numbers)]
            self.assertEqual({tuple(sorted(numbers)) for numbers in right}, {rounds_of(table)})

    def test_any_value(self):
        for table in (((0,),), THREE, PAIR, full_web(4), ((5, 1), (1, 5))):
            for thing in any_values() + bent((3, 6)) + bent((1, 1, 3, 3)) + [(1,) * 3000, (100,) * 3000, tuple(range(1, 101))]:
                if type(thing) is tuple and len(thing) > 2 * len(table):
                    self.whether(False, rounds_hold, table, thing)
                else:
                    self.check(table, thing)


if __name__ == "__main__":
    unittest.main()
