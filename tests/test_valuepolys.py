"""[2.1] to [2.3] and valuepolys.py."""

import unittest
from fractions import Fraction
from math import gcd

from tests import helpers
from tests.helpers import (Case, any_values, bent, full_web, random_signed, random_table, random_turning, ring_web, seeded,
                           star_web, zero_table)
from withintwo.errors import BadFraction, BadTable
from withintwo.valuepolys import moved_poly, poly_value, sign_changes, value_poly

PATH = ((0, 1, 0), (1, 0, 1), (0, 1, 0))
THREE = full_web(3)
WRONG = [thing for thing in any_values() + bent(PATH) if not helpers.is_table(thing)]
FRACTIONS = [(0, 1), (0, 7), (1, 1), (-1, 1), (1, 2), (-2, 4), (6, 4), (9999, 10000), (-10000, 9999), (10000, 1), (-10000, 10000),
             (1, 10000), (-3, 7), (10000, 2)]


def wrong_fractions():
    things = any_values() + bent((1, 2)) + [(1, 0), (1, -1), (0, 0), (-1, -2), (1, 2, 3), [1, 2], (True, 1), (1, True),
                                            ("1", 2), (1, None), ((1, 2), 1), (1,)]
    return [thing for thing in things if not helpers.is_fraction(thing)]


WRONG_FRACTIONS = wrong_fractions()


def value_of(poly, number):
    return sum((coefficient * Fraction(number) ** k for k, coefficient in enumerate(poly)), Fraction(0))


def multiplied(one, other):
    found = [0] * (len(one) + len(other) - 1)
    for i, x in enumerate(one):
        for j, y in enumerate(other):
            found[i + j] += x * y
    return tuple(found)


def some_tables():
    rnd = seeded("polynomials")
    found = [((0,),), ((7,),), PATH, THREE, zero_table(12), full_web(12), ring_web(9, -1), star_web(11)]
    for many in range(1, 13):
        found += [random_signed(rnd, many), random_table(rnd, many, 2), random_table(rnd, many, 1000)]
    return found


def some_polys():
    rnd = seeded("plain polynomials")
    found = [(5,), (0,), (0, 0), (1, 0), (-1, 0, 1), (-2, -3, 0, 1), (0,) * 13, (1,) * 13, (0, 0, 0, 2)]
    for many in range(1, 14):
        found += [tuple(rnd.randint(-top, top) for _ in range(many)) for top in (3, 10 ** 30)]
    return found


class ValuePolyTests(Case):
    def test_examples(self):
        self.same(value_poly(PATH), (0, -2, 0, 1))
        self.same(value_poly(THREE), (-2, -3, 0, 1))
        self.same(value_poly(((7,),)), (-7, 1))
        self.same(value_poly(((1, 2), (2, -3))), (-7, 2, 1))
        self.same(value_poly(zero_table(12)), (0,) * 12 + (1,))
        # (t - 11) (t + 1) ** 11
        wanted = (1,)
        for _ in range(11):
            wanted = multiplied(wanted, (1, 1))
        self.same(value_poly(full_web(12)), multiplied(wanted, (-11, 1)))

    def test_it_is_the_determinant(self):
        for table in some_tables():
            told = self.told(value_poly, table)
            many = len(table)
            self.assertTrue(helpers.are_ints(told, many + 1))
            self.assertEqual(told[-1], 1)
            for t in range(-(many // 2) - 1, many // 2 + 2):
                turned = -1 if many % 2 else 1
                self.assertEqual(value_of(told, t), turned * helpers.determinant(helpers.less(table, Fraction(t))))

    def test_coefficients(self):
        for table in some_tables():
            many = len(table)
            told = value_poly(table)
            self.assertEqual(told[many - 1], -sum(table[k][k] for k in range(many)))
            if helpers.is_signed_web(table) and many > 1:
                self.assertEqual(told[many - 2], -sum(table[i][j] != 0 for i in range(many) for j in range(i)))

    def test_parts_slope_and_turnings(self):
        rnd = seeded("slopes")
        for table in some_tables():
            many = len(table)
            told = value_poly(table)
            self.same(value_poly(helpers.led(table, random_turning(rnd, many))), told)
            slope = tuple(k * told[k] for k in range(1, many + 1))
            left = [value_poly(helpers.within(table, tuple(k for k in range(many) if k != out))) for out in range(many)
                    if many > 1]
            wanted = tuple(sum(poly[k] for poly in left) for k in range(many)) if many > 1 else (1,)
            self.same(slope, wanted)
            if many <= 6:
                other = random_table(rnd, 6, 5)
                self.same(value_poly(helpers.beside(table, other)), multiplied(told, value_poly(other)))

    def test_bad_tables(self):
        for wrong in WRONG:
            self.raises(BadTable, wrong, value_poly, wrong)


class PolyTests(Case):
    def lowest(self, thing):
        self.assertTrue(helpers.is_fraction(thing), thing)
        self.assertEqual(gcd(*thing), 1)

    def test_values(self):
        self.same(poly_value((-2, -3, 0, 1), (1, 2)), (-27, 8))
        self.same(poly_value((-2, -3, 0, 1), (2, 4)), (-27, 8))
        self.same(poly_value((-1, 0, 1), (3, 3)), (0, 1))
        self.same(poly_value((0, 1), (-6, 4)), (-3, 2))
        self.same(poly_value((5,), (7, 3)), (5, 1))
        self.same(poly_value((0,), (7, 3)), (0, 1))
        self.same(poly_value((1, 2), (0, 9)), (1, 1))
        self.same(poly_value((1, 2, 3), (10, 1)), (321, 1))
        for poly in some_polys():
            for number in FRACTIONS:
                told = self.told(poly_value, poly, number)
                self.lowest(told)
                self.assertEqual(Fraction(*told), value_of(poly, Fraction(*number)))

    def test_moved(self):
        self.same(moved_poly((-1, 0, 1), (1, 1)), ((0, 1), (2, 1), (1, 1)))
        self.same(moved_poly((-1, 0, 1), (-2, 4)), ((-3, 4), (-1, 1), (1, 1)))
        self.same(moved_poly((1, 4), (1, 4)), ((2, 1), (4, 1)))
        self.same(moved_poly((5,), (3, 7)), ((5, 1),))
        self.same(moved_poly((1, 0, 0), (3, 7)), ((1, 1), (0, 1), (0, 1)))
        for poly in some_polys():
            for number in FRACTIONS:
                told = self.told(moved_poly, poly, number)
                self.assertIs(type(told), tuple)
                self.assertEqual(len(told), len(poly))
                for item in told:
                    self.lowest(item)
                # As many places as coefficients settle a polynomial.
                for t in range(len(poly)):
                    wanted = value_of(poly, t + Fraction(*number))
                    self.assertEqual(value_of([Fraction(*item) for item in told], t), wanted)

    def test_sign_changes(self):
        self.same(sign_changes(((1, 1), (0, 1), (-2, 3), (5, 1))), 2)
        for numbers, wanted in (((), 0), (((3, 1),), 0), (((0, 1),), 0), (((0, 1), (0, 5)), 0), (((1, 1), (1, 2)), 0),
                                (((-1, 1), (-1, 2)), 0), (((1, 1), (-1, 2)), 1), (((-1, 1), (0, 2), (0, 1), (1, 2)), 1),
                                (((0, 1), (-1, 1), (1, 2), (0, 1)), 1), (((1, 1), (0, 1), (1, 2)), 0),
                                (((2, 2), (-2, 2)) * 6, 11), (((10 ** 90, 10 ** 80), (-1, 10 ** 99)), 1)):
            self.same(self.told(sign_changes, numbers), wanted)
        rnd = seeded("changes")
        for _ in range(60):
            numbers = tuple((rnd.randint(-2, 2), rnd.randint(1, 3)) for _ in range(rnd.randint(0, 13)))
            signs = "".join("+" if top > 0 else "-" for top, _ in numbers if top)
            self.same(sign_changes(numbers), signs.count("+-") + signs.count("-+"))

    def test_counting_by_signs(self):
        for table in some_tables():
            for number in ((0, 1), (-1, 1), (2, 1), (3, 2), (-10, 5), (9999, 7)):
                moved = moved_poly(value_poly(table), number)
                below, at, above = helpers.inertia(table, Fraction(*number))
                self.same(sign_changes(moved), above)
                self.assertTrue(all(item == (0, 1) for item in moved[:at]) and moved[at] != (0, 1))

    def test_bad_fractions(self):
        for wrong in WRONG_FRACTIONS:
            self.raises(BadFraction, wrong, poly_value, (1, 2), wrong)
            self.raises(BadFraction, wrong, moved_poly, (1, 2), wrong)
            self.raises(BadFraction, wrong, sign_changes, (wrong,))
            self.raises(BadFraction, wrong, sign_changes, ((1, 1), (-2, 1), wrong, (1, 0), None))
            self.raises(BadFraction, [], sign_changes, ((1, 1), [], wrong))


if __name__ == "__main__":
    unittest.main()
