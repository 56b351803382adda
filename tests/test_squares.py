"""[2.5], [2.6] and squares.py."""

import unittest
from fractions import Fraction
from math import gcd

from tests import helpers
from tests.helpers import (Case, any_values, bent, full_web, random_signed, random_table, random_turning, ring_web, seeded,
                           star_web, symmetric, zero_table)
from tests.test_valuepolys import WRONG_FRACTIONS
from withintwo.errors import BadFraction, BadTable
from withintwo.squares import high_holds, judge_high, judge_low, low_holds, written, written_holds
from withintwo.values import value_at

PAIR = ((0, 1), (1, 0))
PATH = ((0, 1, 0), (1, 0, 1), (0, 1, 0))
THREE = full_web(3)
WRONG = [thing for thing in any_values() + bent(PATH) if not helpers.is_table(thing)]
NUMBERS = [(0, 1), (0, 8), (-2, 1), (2, 1), (4, 2), (-1, 1), (1, 1), (1, 2), (-3, 2), (-6, 4), (9999, 10000), (-10000, 1),
           (10000, 9999), (10000, 5000)]


def some_tables():
    rnd = seeded("squares")
    found = [((0,),), ((3,),), ((-1000,),), PAIR, PATH, THREE, zero_table(3), zero_table(12), full_web(12), full_web(12, -1),
             ring_web(12, -1), star_web(4), star_web(11), symmetric(12, lambda i, j: 1000), ((0, 5), (5, 0)),
             ((1, 1), (1, 1)), ((-2, 0), (0, -2)), helpers.beside(THREE, PAIR, ((2,),)), helpers.beside(*[PAIR] * 6),
             symmetric(12, lambda i, j: 1000 if i + j == 11 else 0), ((0, 0, 1), (0, 0, 0), (1, 0, 0))]
    for many in range(1, 13):
        found += [random_signed(rnd, many), random_signed(rnd, many, 4), random_table(rnd, many, 1),
                  random_table(rnd, many, 1000)]
        rows = [[rnd.randint(-2, 2) for _ in range(many)] for _ in range(max(1, many // 2))]
        found.append(symmetric(many, lambda i, j: sum(row[i] * row[j] for row in rows)))
    return found


TABLES = some_tables()


def are_terms(table, thing):
    if type(thing) is not tuple:
        return False
    for term in thing:
        if type(term) is not tuple or len(term) != 2 or not helpers.is_fraction(term[0]) or term[0][0] == 0:
            return False
        if not helpers.is_row(table, term[1]) or not any(term[1]):
            return False
    return True


def do_write(table, number, terms):
    many = len(table)
    for i in range(many):
        for j in range(many):
            total = sum((Fraction(*share) * row[i] * row[j] for share, row in terms), Fraction(0))
            if total != table[i][j] - (Fraction(*number) if i == j else 0):
                return False
    return True


def is_writing(table, number, thing):
    if not are_terms(table, thing) or not do_write(table, number, thing):
        return False
    return helpers.rank([row for _, row in thing]) == len(thing)


def excess(table, number, row):
    return helpers.weight(table, row) - Fraction(*number) * helpers.square(row)


def is_headed(thing, word):
    return type(thing) is tuple and len(thing) == 2 and type(thing[0]) is str and thing[0] == word


def is_low(table, number, thing):
    if is_headed(thing, "low"):
        return helpers.is_row(table, thing[1]) and excess(table, number, thing[1]) < 0
    if not is_headed(thing, "squares") or not are_terms(table, thing[1]):
        return False
    return all(share[0] > 0 for share, _ in thing[1]) and do_write(table, number, thing[1])


def is_high(table, number, thing):
    if is_headed(thing, "high"):
        return helpers.is_row(table, thing[1]) and excess(table, number, thing[1]) > 0
    if not is_headed(thing, "squares") or not are_terms(table, thing[1]):
        return False
    return all(share[0] < 0 for share, _ in thing[1]) and do_write(table, number, thing[1])


def terms_by_hand(table, number):
    """Terms with independent rows that write a table, told in another way: with long shares, and rows from behind."""
    many = len(table)
    turn = (tuple(range(many))[::-1], (1,) * many)
    terms = written(helpers.led(table, turn), number)
    return tuple(((9 * share[0], 36 * share[1]), tuple(-2 * item for item in row[::-1])) for share, row in terms[::-1])


class TermCase(Case):
    def integers(self, thing):
        if isinstance(thing, tuple):
            for item in thing:
                self.integers(item)
        elif not isinstance(thing, str):
            self.assertTrue(helpers.is_int(thing))
            self.assertLess(abs(thing), 10 ** 1000)

    def lowest(self, terms):
        for share, _ in terms:
            self.assertEqual(gcd(*share), 1)
            self.assertGreaterEqual(share[1], 1)


class WrittenTests(TermCase):
    def test_written(self):
        for table in TABLES:
            for number in NUMBERS:
                told = self.told(written, table, number)
                self.assertTrue(is_writing(table, number, told), (table, number, told))
                self.integers(told)
                self.lowest(told)
                below, at, above = helpers.inertia(table, Fraction(*number))
                self.assertEqual(sum(share[0] > 0 for share, _ in told), above)
                self.assertEqual(sum(share[0] < 0 for share, _ in told), below)
                self.assertEqual(len(told), len(table) - at)
                self.whether(True, written_holds, table, number, told)

    def test_nothing_to_write(self):
        self.same(written(((0,),), (0, 1)), ())
        self.same(written(((3,),), (6, 2)), ())
        self.same(written(zero_table(12), (0, 5)), ())
        self.whether(True, written_holds, ((3,),), (6, 2), ())
        self.whether(False, written_holds, ((3,),), (5, 2), ())
        self.whether(False, written_holds, PAIR, (0, 1), ())

    def test_written_otherwise(self):
        for table in TABLES:
            for number in NUMBERS[::3]:
                terms = terms_by_hand(table, number)
                self.assertTrue(is_writing(table, number, terms))
                self.whether(True, written_holds, table, number, terms)
                self.whether(True, written_holds, table, number, terms[1:] + terms[:1])
                if terms:
                    share, row = terms[0]
                    self.whether(False, written_holds, table, number, terms[1:])
                    self.whether(False, written_holds, table, number, terms + terms[:1])
                    # The same term in two halves writes, but its rows are not independent.
                    half = ((share[0], 2 * share[1]), row)
                    self.assertTrue(do_write(table, number, (half, half) + terms[1:]))
                    self.whether(False, written_holds, table, number, (half, half) + terms[1:])
                    self.whether(False, written_holds, table, number, (((-share[0], share[1]), row),) + terms[1:])
                    self.whether(False, written_holds, table, number, terms + (((0, 1), row),))
                    self.whether(False, written_holds, table, number, terms + (((1, 1), (0,) * len(row)),))

    def test_examples(self):
        self.whether(True, written_holds, PAIR, (0, 1), (((1, 2), (1, 1)), ((-1, 2), (1, -1))))
        self.whether(False, written_holds, PAIR, (0, 1), (((1, 1), (1, 1)),))
        self.whether(True, written_holds, PAIR, (0, 3), (((2, 4), (-1, -1)), ((-1, 8), (2, -2))))
        self.whether(True, written_holds, PAIR, (-2, 2), (((7, 7), (1, 1)),))
        self.whether(True, written_holds, PAIR, (1, 1), (((-1, 1), (1, -1)),))
        self.whether(False, written_holds, PAIR, (-1, 1), (((-1, 1), (1, -1)),))
        # Three terms in two places write, but cannot be independent.
        self.whether(False, written_holds, ((2, 1), (1, 2)), (0, 1), (((1, 1), (1, 0)), ((1, 1), (0, 1)), ((1, 1), (1, 1))))
        self.whether(True, written_holds, ((2, 1), (1, 2)), (0, 1), (((1, 2), (1, -1)), ((3, 2), (1, 1))))
        # Rows that depend on one another though no two of them are alike.
        self.whether(False, written_holds, ((2, 1, 1), (1, 2, 1), (1, 1, 2)), (0, 1),
                     (((1, 1), (1, 0, 0)), ((1, 1), (0, 1, 0)), ((1, 1), (0, 0, 1)), ((1, 1), (1, 1, 1))))

    def test_shares_and_rows_that_are_nothing(self):
        self.whether(False, written_holds, zero_table(2), (0, 1), (((0, 1), (1, 0)),))
        self.whether(False, written_holds, zero_table(2), (0, 1), (((0, 5), (1, 0)), ((0, 1), (0, 1))))
        one = ((1, 1), (1, 1))
        self.whether(True, written_holds, PAIR, (-1, 1), (one,))
        self.whether(False, written_holds, PAIR, (-1, 1), (one, ((0, 1), (1, -1))))
        self.whether(False, written_holds, PAIR, (-1, 1), (one, ((1, 1), (0, 0))))
        self.whether(True, low_holds, PAIR, (-1, 1), ("squares", (one,)))
        self.whether(False, low_holds, PAIR, (-1, 1), ("squares", (one, ((0, 1), (1, -1)))))
        self.whether(False, low_holds, PAIR, (-1, 1), ("squares", (one, ((1, 1), (0, 0)))))
        one = ((-1, 1), (1, -1))
        self.whether(True, high_holds, PAIR, (1, 1), ("squares", (one,)))
        self.whether(False, high_holds, PAIR, (1, 1), ("squares", (one, ((0, 1), (1, 1)))))
        self.whether(False, high_holds, PAIR, (1, 1), ("squares", (one, ((-1, 1), (0, 0)))))

    def test_three_rows_that_depend(self):
        rows = ((1, 0, 1), (0, 1, 1), (1, 1, 2))
        table = symmetric(3, lambda i, j: sum(row[i] * row[j] for row in rows))
        self.whether(False, written_holds, table, (0, 1), tuple(((1, 1), row) for row in rows))
        self.whether(True, low_holds, table, (0, 1), ("squares", tuple(((1, 1), row) for row in rows)))
        rows = ((1, 0, 1), (0, 1, 1), (1, 1, 3))
        table = symmetric(3, lambda i, j: sum(row[i] * row[j] for row in rows))
        self.whether(True, written_holds, table, (0, 1), tuple(((1, 1), row) for row in rows))

    def test_any_value(self):
        cases = [(PAIR, (0, 1), (((1, 2), (1, 1)), ((-1, 2), (1, -1)))), (((3,),), (5, 2), (((1, 2), (1,)),)),
                 (((3,),), (3, 1), ()), (THREE, (-1, 1), (((1, 1), (1, 1, 1)),)), (PAIR, (0, 1), written(PAIR, (0, 1)))]
        for table, number, right in cases:
            self.whether(True, written_holds, table, number, right)
            for thing in any_values() + bent(right):
                wanted = is_writing(table, number, thing)
                self.assertIs(written_holds(table, number, thing), wanted, (table, number, thing))

    def test_errors(self):
        functions = (written, judge_low, judge_high)
        for wrong in WRONG:
            for function in functions:
                self.raises(BadTable, wrong, function, wrong, (1, 1))
                self.raises(BadTable, wrong, function, wrong, None)
            for function in (written_holds, low_holds, high_holds):
                self.raises(BadTable, wrong, function, wrong, (1, 1), ())
                self.raises(BadTable, wrong, function, wrong, None, None)
        for wrong in WRONG_FRACTIONS:
            for function in functions:
                self.raises(BadFraction, wrong, function, PAIR, wrong)
            for function in (written_holds, low_holds, high_holds):
                self.raises(BadFraction, wrong, function, PAIR, wrong, ())
                self.raises(BadFraction, wrong, function, PAIR, wrong, None)


class JudgementTests(TermCase):
    def test_judgements(self):
        kinds = ((judge_low, low_holds, is_low, "low", 0), (judge_high, high_holds, is_high, "high", 2))
        for judge, holds, is_right, word, side in kinds:
            for table in TABLES:
                for number in NUMBERS:
                    told = self.told(judge, table, number)
                    self.assertTrue(is_right(table, number, told), (table, number, told))
                    against = helpers.inertia(table, Fraction(*number))[side] > 0
                    self.assertEqual(told[0], word if against else "squares")
                    self.integers(told)
                    self.whether(True, holds, table, number, told)
                    if told[0] == "squares":
                        self.lowest(told[1])

    def test_at_the_least_and_the_greatest_value(self):
        for table in TABLES:
            bits = 13
            low, high = value_at(table, 0, bits), value_at(table, len(table) - 1, bits)
            for number, below in (((low, 1 << bits), False), ((low + 1, 1 << bits), True)):
                self.assertEqual(judge_low(table, number)[0], "low" if below else "squares")
            for number, above in (((high - 1, 1 << bits), True), ((high + 1, 1 << bits), False)):
                self.assertEqual(judge_high(table, number)[0], "high" if above else "squares")

    def test_certificates_of_others(self):
        self.same(judge_low(((0,),), (0, 1)), ("squares", ()))
        self.same(judge_high(((0,),), (0, 1)), ("squares", ()))
        self.whether(True, low_holds, THREE, (-1, 1), ("squares", (((1, 1), (1, 1, 1)),)))
        self.whether(True, low_holds, THREE, (-3, 3), ("squares", (((1, 2), (1, 1, 1)), ((2, 4), (-1, -1, -1)))))
        self.whether(True, low_holds, THREE, (-1, 1), ("squares", (((1, 9), (3, 3, 3)),)))
        self.whether(True, low_holds, THREE, (0, 1), ("low", (1, -1, 0)))
        self.whether(False, low_holds, THREE, (-1, 1), ("low", (1, -1, 0)))
        self.whether(True, high_holds, THREE, (3, 2), ("high", (1, 1, 1)))
        self.whether(False, high_holds, THREE, (2, 1), ("high", (1, 1, 1)))
        self.whether(False, high_holds, THREE, (3, 2), ("low", (1, 1, 1)))
        self.whether(False, low_holds, THREE, (0, 1), ("high", (1, -1, 0)))
        self.whether(True, high_holds, PAIR, (1, 1), ("squares", (((-1, 1), (1, -1)),)))
        self.whether(False, low_holds, PAIR, (1, 1), ("squares", (((-1, 1), (1, -1)),)))
        self.whether(False, high_holds, PAIR, (-1, 1), ("squares", (((1, 1), (1, 1)),)))
        self.whether(True, low_holds, PAIR, (-1, 1), ("squares", (((1, 1), (1, 1)),)))
        self.whether(False, low_holds, PAIR, (0, 1), ("squares", (((1, 2), (1, 1)), ((-1, 2), (1, -1)))))
        self.whether(False, high_holds, PAIR, (0, 1), ("squares", (((1, 2), (1, 1)), ((-1, 2), (1, -1)))))
        self.whether(False, low_holds, PAIR, (0, 1), ("low", (0, 0)))
        self.whether(False, high_holds, PAIR, (0, 1), ("high", (0, 0)))
        self.whether(True, low_holds, PAIR, (-9999, 10000), ("low", (10 ** 30, -10 ** 30)))
        self.whether(False, low_holds, PAIR, (-10000, 9999), ("low", (10 ** 30, -10 ** 30)))
        self.whether(True, high_holds, PAIR, (9999, 10000), ("high", (10 ** 30, 10 ** 30)))
        self.whether(True, low_holds, ((10 ** 3,),), (0, 1), ("squares", (((1, 10 ** 27), (10 ** 15,)),)))

    def test_certificates_told_otherwise(self):
        for table in TABLES:
            for number in NUMBERS[::3]:
                below, _, above = helpers.inertia(table, Fraction(*number))
                terms = terms_by_hand(table, number)
                for function, word, is_right, none in ((low_holds, "low", is_low, below), (high_holds, "high", is_high, above)):
                    self.whether(none == 0, function, table, number, ("squares", terms))
                    # Terms need not be independent here.
                    double = tuple(((share[0], 2 * share[1]), row) for share, row in terms + terms)
                    self.whether(none == 0, function, table, number, ("squares", double))
                    self.whether(len(terms) == 0 and none == 0, function, table, number, ("squares", ()))
                    for k in range(len(table)):
                        for row in (tuple(int(i == k) for i in range(len(table))),
                                    tuple((i == k) - (i == 0) for i in range(len(table))),
                                    tuple(int(i <= k) for i in range(len(table)))):
                            thing = (word, row)
                            self.whether(is_right(table, number, thing), function, table, number, thing)

    def test_many_terms(self):
        share = ((1, 200), (1, 1, 1))
        self.whether(True, low_holds, THREE, (-1, 1), ("squares", (share,) * 200))
        self.whether(False, low_holds, THREE, (-1, 1), ("squares", (share,) * 199))
        self.whether(False, high_holds, THREE, (-1, 1), ("squares", (share,) * 200))

    def test_any_value_as_certificate(self):
        cases = [(THREE, (-1, 1)), (THREE, (0, 1)), (PAIR, (1, 1)), (PAIR, (0, 2)), (((0,),), (0, 1)), (((3,),), (2, 1)),
                 (((3,),), (7, 2))]
        for table, number in cases:
            many = len(table)
            certificates = [judge_low(table, number), judge_high(table, number), ("low", (1,) + (-1,) * (many - 1)),
                            ("high", (1,) * many), ("squares", (((1, 1), (1,) * many),)), ("squares", ())]
            things = any_values() + certificates
            for certificate in certificates:
                things += bent(certificate)
            for thing in things:
                self.assertIs(low_holds(table, number, thing), is_low(table, number, thing), (table, number, thing))
                self.assertIs(high_holds(table, number, thing), is_high(table, number, thing), (table, number, thing))

    def test_turned_certificates(self):
        # [0.3]: what is told of a table is told of each table to which a turning leads it, turned.
        rnd = seeded("turned certificates")
        for table in TABLES:
            turning = random_turning(rnd, len(table))
            other = helpers.led(table, turning)
            for number in NUMBERS[::5]:
                for judge, holds in ((judge_low, low_holds), (judge_high, high_holds)):
                    word, told = judge(table, number)
                    if word == "squares":
                        turned = tuple((share, helpers.row_led(turning, row)) for share, row in told)
                    else:
                        turned = helpers.row_led(turning, told)
                    self.assertEqual(judge(other, number)[0], word)
                    self.whether(True, holds, other, number, (word, turned))


if __name__ == "__main__":
    unittest.main()
