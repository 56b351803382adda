"""[2.2] to [2.4], [2.7] and values.py."""

import unittest
from fractions import Fraction
from math import gcd, isqrt

from tests import helpers
from tests.helpers import (Case, any_values, bent, full_web, random_signed, random_table, random_turning, ring_web, seeded,
                           star_web, symmetric, web, zero_table)
from tests.test_valuepolys import WRONG_FRACTIONS
from withintwo.errors import BadFraction, BadPlace, BadTable
from withintwo.squares import judge_high, judge_low, written
from withintwo.valuepolys import moved_poly, poly_value, value_poly
from withintwo.values import is_kept, kept_base, many_values, power_sum, value_at, whole_values

PATH = ((0, 1, 0), (1, 0, 1), (0, 1, 0))
THREE = full_web(3)
# The values 1 and the two roots of 2 beside and within one part.
CLOSE = helpers.beside(((1,),), ((0, 1), (1, 0)), PATH)
PETERSEN = web(10, [(k, (k + 1) % 5) for k in range(5)] + [(k, k + 5) for k in range(5)]
               + [(5 + k, 5 + (k + 2) % 5) for k in range(5)])
WRONG = [thing for thing in any_values() + bent(PATH) if not helpers.is_table(thing)]
NUMBERS = [(0, 1), (0, 9), (-2, 1), (2, 1), (-4, 2), (1, 1), (-1, 1), (3, 1), (1, 2), (7, 5), (-7071, 5000), (10000, 1),
           (-10000, 1), (1, 10000), (9999, 10000), (-3000, 3000), (10000, 5000)]


def some_tables():
    rnd = seeded("values")
    found = [((0,),), ((7,),), ((-1000,),), PATH, THREE, CLOSE, PETERSEN, zero_table(12), full_web(12), full_web(12, -1),
             ring_web(9, -1), ring_web(12), star_web(4), star_web(11), symmetric(12, lambda i, j: 1000),
             symmetric(12, lambda i, j: 1000 if i == j else 0), ((2, 1), (1, 2)), ((0, 2), (2, 3)),
             symmetric(12, lambda i, j: -1000 if i != j else 1000), ((1000, 1), (1, 999)),
             helpers.beside(THREE, ((2,),), ((-1,),), ((2, 0), (0, 3)))]
    for many in range(1, 13):
        found += [random_signed(rnd, many), random_table(rnd, many, 1), random_table(rnd, many, 1000)]
        rows = [[rnd.randint(-2, 2) for _ in range(many)] for _ in range(max(1, many // 2))]
        found.append(symmetric(many, lambda i, j: sum(row[i] * row[j] for row in rows)))
    return found


class CountTests(Case):
    def test_examples(self):
        self.same(many_values(THREE, (-1, 1)), (0, 2, 1))
        self.same(many_values(THREE, (-2, 2)), (0, 2, 1))
        self.same(many_values(THREE, (-3, 2)), (0, 0, 3))
        self.same(many_values(((7,),), (7, 1)), (0, 1, 0))
        self.same(many_values(((7,),), (15, 2)), (1, 0, 0))
        self.same(many_values(zero_table(12), (0, 5)), (0, 12, 0))

    def test_counts(self):
        for table in some_tables():
            for number in NUMBERS:
                told = self.told(many_values, table, number)
                self.same(told, helpers.inertia(table, Fraction(*number)))

    def test_counts_within(self):
        # [2.4]: the k-th value within a lot lies between two values of the table.
        rnd = seeded("interlaced")
        for table in some_tables():
            many = len(table)
            lot = tuple(sorted(rnd.sample(range(many), rnd.randint(1, many))))
            inner = helpers.within(table, lot)
            for number in NUMBERS:
                below, _, above = many_values(table, number)
                told = many_values(inner, number)
                self.assertLessEqual(told[0], below)
                self.assertLessEqual(told[2], above)
                self.assertGreaterEqual(told[0], below - (many - len(lot)))

    def test_turnings_leave_the_values(self):
        rnd = seeded("turned values")
        for table in some_tables():
            other = helpers.led(table, random_turning(rnd, len(table)))
            self.same(many_values(other, (1, 3)), many_values(table, (1, 3)))
            self.same(whole_values(other), whole_values(table))

    def test_errors(self):
        for wrong in WRONG:
            self.raises(BadTable, wrong, many_values, wrong, (1, 1))
            self.raises(BadTable, wrong, many_values, wrong, None)
            self.raises(BadTable, wrong, value_at, wrong, 0, 3)
            self.raises(BadTable, wrong, value_at, wrong, None, 3)
            self.raises(BadTable, wrong, whole_values, wrong)
            self.raises(BadTable, wrong, power_sum, wrong, 2)
            self.raises(BadTable, wrong, kept_base, wrong, 2)
            self.raises(BadTable, wrong, is_kept, wrong, 2, (1,))
        for wrong in WRONG_FRACTIONS:
            self.raises(BadFraction, wrong, many_values, PATH, wrong)


class ValueTests(Case):
    def test_examples(self):
        self.same(value_at(PATH, 2, 10), 1448)
        self.same(value_at(PATH, 0, 0), -2)
        self.same(value_at(PATH, 1, 60), 0)
        self.same(value_at(PATH, 0, 10), -1449)
        self.same([value_at(PATH, 2, bits) for bits in (0, 1, 2, 3)], [1, 2, 5, 11])
        self.same([value_at(PATH, 0, bits) for bits in (0, 1, 2, 3)], [-2, -3, -6, -12])
        for bits in range(61):
            root = isqrt(2 << (2 * bits))
            self.same(value_at(PATH, 2, bits), root)
            self.same(value_at(PATH, 0, bits), -root - 1)
            self.same([value_at(THREE, place, bits) for place in range(3)], [-1 << bits, -1 << bits, 2 << bits])
            self.same(value_at(((7,),), 0, bits), 7 << bits)
            self.same(value_at(((-1000,),), 0, bits), -1000 << bits)
        self.same(value_at(symmetric(12, lambda i, j: 1000), 11, 60), 12000 << 60)
        self.same(value_at(symmetric(12, lambda i, j: -1000), 0, 60), -12000 << 60)
        self.same(value_at(symmetric(12, lambda i, j: -1000), 11, 60), 0)

    def test_values_by_their_numbers(self):
        for table in some_tables():
            for place in {0, len(table) // 2, len(table) - 1}:
                for bits in (0, 1, 7, 60):
                    told = self.told(value_at, table, place, bits)
                    self.assertTrue(helpers.is_int(told))
                    # At most so many values as its number are below m / 2 ** bits, and more below the next one.
                    self.assertLessEqual(helpers.inertia(table, Fraction(told, 2 ** bits))[0], place)
                    self.assertGreater(helpers.inertia(table, Fraction(told + 1, 2 ** bits))[0], place)

    def test_all_values_in_order(self):
        for table in some_tables():
            for bits in (0, 13):
                told = [value_at(table, place, bits) for place in range(len(table))]
                self.assertEqual(told, sorted(told))
                for place in range(len(table)):
                    below, at, _ = many_values(table, (told[place], 1 << bits))
                    self.assertLessEqual(below, place)

    def test_bad_places(self):
        for table in (((7,),), PATH, full_web(12)):
            for thing in any_values() + [len(table), -1, len(table) - 1, -len(table), (0,), "0"]:
                if helpers.is_int(thing) and 0 <= thing < len(table):
                    self.assertTrue(helpers.is_int(value_at(table, thing, 3)))
                else:
                    self.raises(BadPlace, thing, value_at, table, thing, 3)

    def test_whole_values(self):
        self.same(whole_values(THREE), ((-1, 2), (2, 1)))
        self.same(whole_values(PATH), ((0, 1),))
        self.same(whole_values(((0, 2), (2, 3))), ((-1, 1), (4, 1)))
        self.same(whole_values(((1, 2), (2, 0))), ())
        self.same(whole_values(CLOSE), ((-1, 1), (0, 1), (1, 2)))
        self.same(whole_values(PETERSEN), ((-2, 4), (1, 5), (3, 1)))
        self.same(whole_values(zero_table(12)), ((0, 12),))
        self.same(whole_values(symmetric(12, lambda i, j: 1000)), ((0, 11), (12000, 1)))
        self.same(whole_values(symmetric(12, lambda i, j: -1000)), ((-12000, 1), (0, 11)))
        self.same(whole_values(((0, 1, 0, 0), (1, 0, 0, 0), (0, 0, 1, 1), (0, 0, 1, 2))), ((-1, 1), (1, 1)))
        for table in some_tables():
            told = self.told(whole_values, table)
            bound = max(sum(abs(entry) for entry in row) for row in table)
            if bound <= 40:
                counts = [(whole, helpers.inertia(table, Fraction(whole))[1]) for whole in range(-bound, bound + 1)]
                self.same(told, tuple(pair for pair in counts if pair[1] > 0))
            else:
                found = []
                for place in range(len(table)):
                    whole = value_at(table, place, 0)
                    pair = (whole, helpers.inertia(table, Fraction(whole))[1])
                    if pair[1] > 0 and pair not in found:
                        found.append(pair)
                self.same(told, tuple(found))

    def test_power_sums(self):
        self.same(power_sum(THREE, 3), 6)
        self.same([power_sum(PATH, k) for k in range(7)], [3, 0, 4, 0, 8, 0, 16])
        self.same(power_sum(((-3,),), 20), 3 ** 20)
        self.same(power_sum(((-3,),), 19), -3 ** 19)
        self.same(power_sum(((-3,),), 0), 1)
        self.same([power_sum(zero_table(12), k) for k in range(3)], [12, 0, 0])
        for table in some_tables():
            power = [[int(i == j) for j in range(len(table))] for i in range(len(table))]
            for k in range(21):
                self.same(self.told(power_sum, table, k), sum(power[place][place] for place in range(len(table))))
                power = helpers.multiplied(power, table)

    def test_power_sums_of_whole_values(self):
        for table in (THREE, PETERSEN, full_web(12), ((0, 2), (2, 3)), star_web(4), star_web(9)):
            values = whole_values(table)
            self.assertEqual(sum(many for _, many in values), len(table))
            for k in range(21):
                self.assertEqual(power_sum(table, k), sum(many * whole ** k for whole, many in values))


class AgreementTests(Case):
    def test_counts_and_values_by_their_numbers(self):
        for table in some_tables():
            values = [value_at(table, place, 20) for place in range(len(table))]
            for number in NUMBERS:
                below, at, above = many_values(table, number)
                self.assertEqual(below + at + above, len(table))
                steps = Fraction(number[0] << 20, number[1])
                self.assertTrue(all(value <= steps for value in values[:below + at]))
                self.assertTrue(all(value + 1 > steps for value in values[below:]))

    def test_whole_values_kept_rows_and_counts(self):
        for table in some_tables():
            wholes = dict(whole_values(table))
            for whole in {*range(-3, 4), *wholes}:
                many = wholes.get(whole, 0)
                self.assertEqual(many_values(table, (whole, 1))[1], many)
                self.assertEqual(many_values(table, (7 * whole, 7))[1], many)
                self.assertEqual(len(kept_base(table, whole)), many)
                self.assertEqual(poly_value(value_poly(table), (whole, 1)) == (0, 1), many > 0)
                moved = moved_poly(value_poly(table), (whole, 1))
                self.assertEqual([item == (0, 1) for item in moved[:many + 1]], [True] * many + [False])

    def test_power_sums_and_polynomials(self):
        # I. Newton: the coefficients settle the sums of powers of all roots.
        for table in some_tables():
            many = len(table)
            poly = value_poly(table)[::-1]
            sums = [power_sum(table, k) for k in range(many + 1)]
            for k in range(1, many + 1):
                self.assertEqual(k * poly[k], -sum(poly[k - back] * sums[back] for back in range(1, k + 1)))

    def test_writings_and_counts(self):
        for table in some_tables():
            for number in NUMBERS[::3]:
                below, at, above = many_values(table, number)
                shares = [share for share, _ in written(table, number)]
                self.assertEqual((sum(top < 0 for top, _ in shares), sum(top > 0 for top, _ in shares)), (below, above))
                self.assertEqual(judge_low(table, number)[0] == "squares", below == 0)
                self.assertEqual(judge_high(table, number)[0] == "squares", above == 0)


def is_kept_row(table, whole, thing):
    if not helpers.is_row(table, thing) or not any(thing):
        return False
    return helpers.image(table, thing) == tuple(whole * item for item in thing)


class KeptTests(Case):
    def check(self, table, whole):
        told = self.told(kept_base, table, whole)
        self.assertIs(type(told), tuple)
        self.assertEqual(len(told), helpers.inertia(table, Fraction(whole))[1])
        self.assertEqual(helpers.rank(told), len(told))
        firsts = []
        for row in told:
            self.assertTrue(is_kept_row(table, whole, row))
            self.whether(True, is_kept, table, whole, row)
            self.assertEqual(gcd(*row), 1)
            firsts.append(next(at for at, item in enumerate(row) if item != 0))
            self.assertGreater(row[firsts[-1]], 0)
        self.assertEqual(firsts, sorted({*firsts}))
        for row, first in zip(told, firsts):
            self.assertTrue(all(row[other] == 0 for other in firsts if other != first))

    def test_kept_bases(self):
        self.same(kept_base(THREE, -1), ((1, 0, -1), (0, 1, -1)))
        self.same(kept_base(THREE, 2), ((1, 1, 1),))
        self.same(kept_base(THREE, 0), ())
        self.same(kept_base(PATH, 0), ((1, 0, -1),))
        self.same(kept_base(zero_table(2), 0), ((1, 0), (0, 1)))
        self.same(kept_base(((0, 2), (2, 3)), 4), ((1, 2),))
        self.same(kept_base(((0, 2), (2, 3)), -1), ((2, -1),))
        self.same(kept_base(((7,),), 7), ((1,),))
        self.same(kept_base(((7,),), 10000), ())
        self.same(kept_base(((4, -6), (-6, 9)), 0), ((3, 2),))
        self.same(kept_base(((1, 2, 3), (2, 4, 6), (3, 6, 9)), 0), ((3, 0, -1), (0, 3, -2)))
        for table in some_tables():
            for whole in [-10000, -2, -1, 0, 1, 2, 10000] + [value for value, _ in whole_values(table)]:
                if abs(whole) <= 10000:
                    self.check(table, whole)

    def test_is_kept(self):
        cases = [(THREE, -1), (THREE, 2), (THREE, 0), (((7,),), 7), (((7,),), 3), (zero_table(3), 0), (PATH, 0)]
        for table, whole in cases:
            things = any_values() + [(0,) * len(table), (1,) * len(table), [1] * len(table), (True,) * len(table),
                                     (10 ** 29,) * len(table)]
            for row in kept_base(table, whole):
                things += [row, tuple(-3 * item for item in row), list(row)] + bent(row)
            for thing in things:
                self.whether(is_kept_row(table, whole, thing), is_kept, table, whole, thing)
        self.whether(True, is_kept, THREE, -1, (10 ** 29, -10 ** 29, 0))
        self.whether(True, is_kept, THREE, -1, (3, -1, -2))
        self.whether(False, is_kept, THREE, -1, (3, -1, -1))
        self.whether(False, is_kept, THREE, 2, (0, 0, 0))
        self.whether(True, is_kept, PETERSEN, 3, (1,) * 10)
        self.whether(False, is_kept, PETERSEN, 1, (1,) * 10)

    def test_sums_of_the_base_are_kept(self):
        rnd = seeded("kept sums")
        for table in (PETERSEN, full_web(12), ring_web(12), star_web(9), zero_table(4), THREE):
            for whole, many in whole_values(table):
                base = kept_base(table, whole)
                self.assertEqual(len(base), many)
                shares = [rnd.randint(1, 9) for _ in base]
                row = tuple(sum(share * line[at] for share, line in zip(shares, base)) for at in range(len(table)))
                self.whether(True, is_kept, table, whole, row)
                self.whether(False, is_kept, table, whole + 1, row)


if __name__ == "__main__":
    unittest.main()
