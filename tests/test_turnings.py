"""[1.4], [1.5] and turnings.py."""

import itertools
import unittest

from tests import helpers
from tests.helpers import (Case, all_signs, any_values, bent, full_web, random_signed, random_table, random_turning,
                           ring_web, seeded, star_web, symmetric, web, zero_table)
from withintwo.errors import BadRow, BadTable, BadTurning
from withintwo.turnings import (back, both, is_turning, judge_signs, led, plain_signs, row_led, sign_along, signs_hold,
                                turning_between)

PATH = ((0, 1, 0), (1, 0, 1), (0, 1, 0))
THREE = full_web(3)
BENT = ((0, -1, 1), (-1, 0, 1), (1, 1, 0))
TURN = ((1, 2, 0), (1, -1, 1))
WRONG = [thing for thing in any_values() + bent(PATH) if not helpers.is_table(thing)]
WRONG_TURNS = [thing for thing in any_values() + bent(TURN) if not helpers.is_turning(PATH, thing)]


def signed(table, signs):
    many = range(len(table))
    return tuple(tuple(signs[i] * signs[j] * table[i][j] for j in many) for i in many)


def some_tables(rnd):
    found = [((0,),), ((-4,),), PATH, THREE, BENT, zero_table(12), full_web(12, -1), ring_web(12, -1), star_web(3),
             symmetric(4, lambda i, j: 10 ** 20 - 1 - i * j), ((1, -1), (-1, -1))]
    for many in range(1, 13):
        found += [random_table(rnd, many, 2), random_signed(rnd, many), random_signed(rnd, many, 4)]
    return found


class TurningTests(Case):
    def test_is_turning(self):
        for table in (((0,),), PATH, zero_table(2), full_web(12)):
            many = len(table)
            plain = (tuple(range(many)), (1,) * many)
            things = any_values() + [plain, list(plain), (plain[0],), plain + ((),), (list(plain[0]), plain[1]),
                                     (plain[0], list(plain[1])), (plain[0], (0,) * many), (plain[0], (2,) * many),
                                     (plain[0], (True,) * many), ((0,) * many, plain[1]), (plain[0], (-1,) * many),
                                     (tuple(range(1, many + 1)), plain[1]), (plain[1], plain[0]), plain[0], plain[1],
                                     (plain[0] + (many,), plain[1] + (1,)), (plain[0][:-1], plain[1][:-1]),
                                     (plain[0], plain[1] + (1,)), (plain[0], plain[1][:-1])]
            for thing in things:
                self.whether(helpers.is_turning(table, thing), is_turning, table, thing)
        for thing in bent(TURN):
            self.whether(helpers.is_turning(PATH, thing), is_turning, PATH, thing)
        for names in itertools.product(range(3), repeat=3):
            for signs in itertools.product((-1, 0, 1), repeat=3):
                wanted = sorted(names) == [0, 1, 2] and 0 not in signs
                self.whether(wanted, is_turning, PATH, (names, signs))

    def test_led(self):
        self.same(led(BENT, TURN), ((0, 1, -1), (1, 0, 1), (-1, 1, 0)))
        self.same(led(((1, 2), (2, 3)), ((1, 0), (1, -1))), ((3, -2), (-2, 1)))
        rnd = seeded("led")
        for table in some_tables(rnd):
            for _ in range(3):
                turning = random_turning(rnd, len(table))
                self.same(self.told(led, table, turning), helpers.led(table, turning))

    def test_row_led(self):
        self.same(row_led(BENT, TURN, (5, 7, 9)), (9, 5, -7))
        rnd = seeded("row led")
        for table in some_tables(rnd):
            turning = random_turning(rnd, len(table))
            row = tuple(rnd.randint(-10 ** 30, 10 ** 30) for _ in table)
            self.same(self.told(row_led, table, turning, row), helpers.row_led(turning, row))
            self.assertEqual(helpers.weight(led(table, turning), row_led(table, turning, row)),
                             helpers.weight(table, row))

    def test_both(self):
        self.same(both(BENT, TURN, TURN), ((2, 0, 1), (-1, -1, 1)))
        self.same(both(PATH, ((1, 0, 2), (-1, 1, 1)), ((0, 2, 1), (1, -1, 1))), ((2, 0, 1), (1, 1, 1)))
        rnd = seeded("both")
        for table in some_tables(rnd):
            first, second = random_turning(rnd, len(table)), random_turning(rnd, len(table))
            told = self.told(both, table, first, second)
            self.assertTrue(helpers.is_turning(table, told))
            row = tuple(range(1, len(table) + 1))
            self.same(helpers.led(table, told), helpers.led(helpers.led(table, first), second))
            self.same(helpers.row_led(told, row), helpers.row_led(second, helpers.row_led(first, row)))

    def test_back(self):
        self.same(back(BENT, TURN), ((2, 0, 1), (1, 1, -1)))
        rnd = seeded("back")
        for table in some_tables(rnd):
            turning = random_turning(rnd, len(table))
            told = self.told(back, table, turning)
            self.assertTrue(helpers.is_turning(table, told))
            row = tuple(range(1, len(table) + 1))
            self.same(helpers.led(helpers.led(table, turning), told), table)
            self.same(helpers.row_led(told, helpers.row_led(turning, row)), row)

    def test_bad_tables(self):
        for wrong in WRONG:
            self.raises(BadTable, wrong, is_turning, wrong, TURN)
            self.raises(BadTable, wrong, led, wrong, None)
            self.raises(BadTable, wrong, row_led, wrong, None, None)
            self.raises(BadTable, wrong, both, wrong, None, None)
            self.raises(BadTable, wrong, back, wrong, None)
            self.raises(BadTable, wrong, plain_signs, wrong)
            self.raises(BadTable, wrong, sign_along, wrong, None)

    def test_bad_turnings(self):
        for wrong in WRONG_TURNS:
            self.raises(BadTurning, wrong, led, PATH, wrong)
            self.raises(BadTurning, wrong, row_led, PATH, wrong, (1, 2, 3))
            self.raises(BadTurning, wrong, row_led, PATH, wrong, None)
            self.raises(BadTurning, wrong, both, PATH, wrong, TURN)
            self.raises(BadTurning, wrong, both, PATH, TURN, wrong)
            self.raises(BadTurning, wrong, both, PATH, wrong, [])
            self.raises(BadTurning, [], both, PATH, [], wrong)
            self.raises(BadTurning, wrong, back, PATH, wrong)
        for thing in any_values() + bent((5, 7, 9)):
            if not helpers.is_row(PATH, thing):
                self.raises(BadRow, thing, row_led, PATH, TURN, thing)


def are_alike_in_signs(one, other):
    """By spreading signs through the ties of the first table."""
    many = range(len(one))
    if any(abs(one[i][j]) != abs(other[i][j]) for i in many for j in many):
        return False
    signs = {}
    for start in many:
        if start not in signs:
            signs[start] = 1
            waiting = [start]
            while waiting:
                i = waiting.pop()
                for j in many:
                    if j not in signs and one[i][j] != 0:
                        signs[j] = signs[i] * (1 if one[i][j] == other[i][j] else -1)
                        waiting.append(j)
    return signed(one, signs) == other


def sign_of(table, ring):
    found = 1
    for at in range(len(ring)):
        found *= 1 if table[ring[at - 1]][ring[at]] > 0 else -1
    return found


def is_certificate(one, other, thing):
    """[1.5] word by word."""
    if type(thing) is not tuple or len(thing) < 2 or type(thing[0]) is not str:
        return False
    if thing[0] == "signs" and len(thing) == 2:
        signs = thing[1]
        return helpers.is_row(one, signs) and all(s in (1, -1) for s in signs) and signed(one, signs) == other
    if thing[0] == "pair" and len(thing) == 3:
        i, j = thing[1:]
        if not helpers.are_ints((i, j)) or not 0 <= i <= j < len(one):
            return False
        return one[i][j] != other[i][j] and (i == j or one[i][j] != -other[i][j])
    if thing[0] == "ring" and len(thing) == 2:
        ring = thing[1]
        if not helpers.is_ring(one, ring) or not helpers.is_ring(other, ring):
            return False
        pairs = [(ring[at - 1], ring[at]) for at in range(len(ring))]
        if any(abs(one[i][j]) != abs(other[i][j]) for i, j in pairs):
            return False
        return sign_of(one, ring) != sign_of(other, ring)
    return False


def some_pairs(rnd):
    """Pairs of tables with equally many places, alike in signs or almost."""
    found = [(((0,),), ((0,),)), (((0,),), ((1,),)), (((3,),), ((-3,),)), (THREE, BENT), (THREE, THREE), (PATH, BENT),
             (ring_web(12), ring_web(12, -1)), (full_web(12), full_web(12, -1)), (zero_table(12), zero_table(12)),
             (((0, 1), (1, 0)), ((0, -1), (-1, 0))), (((0, 1), (1, 0)), ((0, 2), (2, 0))), (zero_table(2), full_web(2)),
             (((1, 1), (1, -1)), ((-1, 1), (1, -1))), (((0, 7), (7, 0)), ((0, 10 ** 20), (10 ** 20, 0)))]
    for many in range(1, 13):
        for part in (1, 2, 4):
            one = random_signed(rnd, many, part)
            other = signed(one, [rnd.choice((1, -1)) for _ in range(many)])
            found += [(one, other), (other, one), (one, random_signed(rnd, many, part))]
            rows = [list(row) for row in other]
            i, j = rnd.randrange(many), rnd.randrange(many)
            rows[i][j] = rows[j][i] = rnd.choice((-rows[i][j], 1, 2))
            found.append((one, tuple(tuple(row) for row in rows)))
        one = random_table(rnd, many, 3)
        found += [(one, signed(one, [rnd.choice((1, -1)) for _ in range(many)])), (one, random_table(rnd, many, 1))]
    return found


class SignsTests(Case):
    def test_judge_signs(self):
        for one, other in some_pairs(seeded("signs")):
            told = self.told(judge_signs, one, other)
            self.assertTrue(is_certificate(one, other, told), (one, other, told))
            self.assertEqual(told[0] == "signs", are_alike_in_signs(one, other))
            self.whether(True, signs_hold, one, other, told)

    def test_signs_exactly_if_there_are_such(self):
        rnd = seeded("few signs")
        for many in (1, 2, 3, 4, 5):
            for _ in range(25):
                one = random_table(rnd, many, 1)
                other = random_table(rnd, many, 1) if rnd.randrange(2) else signed(one, [rnd.choice((1, -1)) for _ in one])
                right = [signs for signs in all_signs(many) if signed(one, signs) == other]
                self.assertEqual(judge_signs(one, other)[0] == "signs", right != [])
                for signs in all_signs(many):
                    self.whether(signs in right, signs_hold, one, other, ("signs", signs))

    def test_all_small_signed_webs(self):
        webs = [symmetric(4, lambda i, j: 0 if i == j else signs[i * (i - 1) // 2 + j])
                for signs in itertools.product((-1, 1), repeat=6)]
        for one in webs[::5]:
            for other in webs:
                told = judge_signs(one, other)
                self.assertTrue(is_certificate(one, other, told))
                self.assertEqual(told[0], "signs" if are_alike_in_signs(one, other) else "ring")

    def test_rings_behind_chains(self):
        # A chain of places, then a ring: the ring that is told has no place twice.
        rnd = seeded("chains")
        for chain in range(0, 6):
            for ring in range(3, 7):
                many = chain + ring
                ties = [(k, k + 1) for k in range(many - 1)] + [(chain, many - 1)]
                one = web(many, ties)
                for i, j in ties[chain:]:
                    rows = [list(row) for row in one]
                    rows[i][j] = rows[j][i] = -1
                    other = tuple(tuple(row) for row in rows)
                    for turning in ((tuple(range(many)), (1,) * many), random_turning(rnd, many)):
                        pair = (helpers.led(one, turning), helpers.led(other, turning))
                        told = judge_signs(*pair)
                        self.assertEqual((told[0], len(told[1])), ("ring", ring))
                        self.assertTrue(is_certificate(*pair, told), told)
                        self.whether(True, signs_hold, *pair, told)

    def test_kinds_that_are_told(self):
        self.assertEqual(judge_signs(THREE, BENT)[0], "ring")
        self.same(judge_signs(THREE, ((0, 1, 1), (1, 2, 1), (1, 1, 0))), ("pair", 1, 1))
        self.same(judge_signs(((4,),), ((-4,),)), ("pair", 0, 0))
        self.same(judge_signs(((0, 1), (1, 0)), ((0, 2), (2, 0))), ("pair", 0, 1))
        self.assertEqual(len(judge_signs(ring_web(12), ring_web(12, -1))[1]), 12)

    def test_signs_hold_for_pairs(self):
        for one, other in some_pairs(seeded("pairs")):
            if len(one) <= 5:
                for i in range(-1, len(one) + 1):
                    for j in range(-1, len(one) + 1):
                        thing = ("pair", i, j)
                        self.whether(is_certificate(one, other, thing), signs_hold, one, other, thing)
        self.whether(True, signs_hold, THREE, zero_table(3), ("pair", 0, 2))
        self.whether(False, signs_hold, THREE, zero_table(3), ("pair", 2, 0))
        self.whether(False, signs_hold, THREE, zero_table(3), ("pair", 0, 0))
        self.whether(False, signs_hold, THREE, BENT, ("pair", 0, 1))
        self.whether(True, signs_hold, ((1,),), ((-1,),), ("pair", 0, 0))
        self.whether(False, signs_hold, THREE, zero_table(3), ("pair", False, 1))
        self.whether(False, signs_hold, THREE, zero_table(3), ("pair", 0, True))

    def test_signs_hold_for_rings(self):
        rnd = seeded("rings")
        for _ in range(40):
            one = random_signed(rnd, 4, 3) if rnd.randrange(2) else full_web(4, 2)
            other = symmetric(4, lambda i, j: one[i][j] * rnd.choice((1, 1, -1, 2)))
            for size in (1, 2, 3, 4, 5):
                for ring in itertools.product(range(4), repeat=size):
                    if size < 5 or ring[0] == ring[4]:
                        wanted = is_certificate(one, other, ("ring", ring))
                        self.assertIs(signs_hold(one, other, ("ring", ring)), wanted, (one, other, ring))
        self.whether(True, signs_hold, THREE, BENT, ("ring", (2, 0, 1)))
        self.whether(True, signs_hold, THREE, BENT, ("ring", (1, 0, 2)))
        self.whether(False, signs_hold, THREE, BENT, ("ring", [0, 1, 2]))
        self.whether(False, signs_hold, THREE, BENT, ("ring", (0, True, 2)))
        self.whether(False, signs_hold, THREE, BENT, ("ring", (0, 1, 2, 0)))
        self.whether(False, signs_hold, THREE, BENT, ("ring", (0, 1, 2), 0))
        # Along a ring of both tables some sizes are unlike: there is a pair, but the ring tells nothing.
        doubled = ((0, -2, 1), (-2, 0, 1), (1, 1, 0))
        self.whether(False, signs_hold, THREE, doubled, ("ring", (0, 1, 2)))
        self.whether(True, signs_hold, THREE, doubled, ("pair", 0, 1))
        # A ring of the second table alone is none of both.
        self.whether(False, signs_hold, PATH, BENT, ("ring", (0, 1, 2)))
        # Rings and pairs can both be there.
        looped = ((1, -1, 1), (-1, 0, 1), (1, 1, 0))
        self.whether(True, signs_hold, THREE, looped, ("ring", (0, 1, 2)))
        self.whether(True, signs_hold, THREE, looped, ("pair", 0, 0))

    def test_any_value_as_certificate(self):
        pairs = [(THREE, BENT), (THREE, signed(THREE, (1, -1, 1))), (THREE, zero_table(3)), (((0,),), ((0,),)),
                 (ring_web(4), ring_web(4, -1)), (zero_table(3), zero_table(3))]
        things = any_values()
        for certificate in (("signs", (1, -1, 1)), ("signs", (1, 1, 1, 1)), ("pair", 0, 2), ("pair", 1, 1),
                            ("ring", (0, 1, 2)), ("ring", (0, 1, 2, 3))):
            things += [certificate] + bent(certificate)
        for one, other in pairs:
            for thing in things:
                wanted = is_certificate(one, other, thing)
                self.assertIs(signs_hold(one, other, thing), wanted, (one, other, thing))
        for thing in any_values():
            self.whether(is_certificate(THREE, THREE, thing), signs_hold, THREE, THREE, thing)

    def test_errors(self):
        def no_signs_hold(one, other):
            return signs_hold(one, other, None)

        for function in (judge_signs, no_signs_hold):
            for wrong in WRONG:
                self.raises(BadTable, wrong, function, wrong, PATH)
                self.raises(BadTable, wrong, function, PATH, wrong)
                self.raises(BadTable, wrong, function, wrong, [])
                self.raises(BadTable, [], function, [], wrong)
            for one in range(1, 5):
                for other in range(1, 5):
                    if one != other:
                        self.raises(BadTable, full_web(other), function, full_web(one), full_web(other))

    def test_sign_along(self):
        self.same(sign_along(THREE, (0, 1, 2)), 1)
        self.same(sign_along(BENT, (2, 0, 1)), -1)
        # Only signs count, and only those of the entries along the ring.
        self.same(sign_along(((-1, -7, 3), (-7, -1, -5), (3, -5, -1)), (1, 2, 0)), 1)
        self.same(sign_along(((-1, 7, 3), (7, -1, -10 ** 19), (3, -10 ** 19, -1)), (1, 2, 0)), -1)
        self.same(sign_along(ring_web(12, -1), tuple(range(12))), -1)
        rnd = seeded("along")
        for many in range(3, 8):
            for _ in range(6):
                table = random_table(rnd, many, 3)
                for size in (3, 4, many):
                    for _ in range(8):
                        ring = tuple(rnd.sample(range(many), min(size, many)))
                        if helpers.is_ring(table, ring):
                            self.same(self.told(sign_along, table, ring), sign_of(table, ring))
                        else:
                            self.raises(BadRow, ring, sign_along, table, ring)

    def test_what_is_no_ring(self):
        for table in (THREE, full_web(5), ring_web(4), PATH, zero_table(4)):
            things = any_values() + bent((0, 1, 2)) + [(0, 1, 2), (0, 1, 2, 3), (0, 1), (0, 1, 0), (0, 1, 3), (-1, 0, 1)]
            for thing in things:
                if helpers.is_ring(table, thing):
                    self.same(sign_along(table, thing), 1)
                else:
                    self.raises(BadRow, thing, sign_along, table, thing)


PETERSEN = web(10, [(k, (k + 1) % 5) for k in range(5)] + [(k, k + 5) for k in range(5)]
               + [(5 + k, 5 + (k + 2) % 5) for k in range(5)])
PRISM = web(10, [(k, (k + 1) % 5) for k in range(5)] + [(k, k + 5) for k in range(5)]
            + [(5 + k, 5 + (k + 1) % 5) for k in range(5)])


# Webs with signs in which all pairs of places look alike, so that only rings of three tell places apart.
SIX_LINES = symmetric(6, lambda i, j: 0 if i == j else 1 if i == 5 or (i - j) % 5 in (1, 4) else -1)
TEN_LINES = symmetric(10, lambda i, j: 0 if i == j else 1 - 2 * PETERSEN[i][j])
CUBE = symmetric(8, lambda i, j: int((i ^ j) in (1, 2, 4)))
SIGNED_CUBE = symmetric(8, lambda i, j: (-1) ** bin(i >> (i ^ j).bit_length()).count("1") if (i ^ j) in (1, 2, 4) else 0)
ROOKS = symmetric(9, lambda i, j: int(i != j and (i // 3 == j // 3 or i % 3 == j % 3)))
SIDES = symmetric(10, lambda i, j: (i + j) % 2)
# Two tables of eight places whose squares are 4 times the plain one, and with equal loops.
COLUMNS = ((1, 1, 1, 1, 0, 0, 0, 0), (1, 1, -1, -1, 0, 0, 0, 0), (1, -1, 0, 0, 1, 1, 0, 0), (1, -1, 0, 0, -1, -1, 0, 0),
           (0, 0, 1, -1, 0, 0, 1, 1), (0, 0, 1, -1, 0, 0, -1, -1), (0, 0, 0, 0, 1, -1, -1, 1), (0, 0, 0, 0, 1, -1, 1, -1))
SEATS = ((0, 1, 0, 0, 0, 1, 1, 1), (1, 0, 1, 0, 0, 0, 1, -1), (0, 1, 0, 1, 1, -1, 0, 0), (0, 0, 1, 1, 0, 1, -1, 0),
         (0, 0, 1, 0, -1, -1, 0, 1), (1, 0, -1, 1, -1, 0, 0, 0), (1, 1, 0, -1, 0, 0, -1, 0), (1, -1, 0, 0, 1, 0, 0, 1))


class AlikeTests(Case):
    def find(self, one, other, wanted=None):
        told = self.told(turning_between, one, other)
        if told is not None:
            self.assertTrue(helpers.is_turning(one, told), told)
            self.same(helpers.led(one, told), other)
        if wanted is not None:
            self.assertEqual(told is not None, wanted, (one, other))
        return told

    def test_small_tables_by_all_turnings(self):
        rnd = seeded("small turnings")
        for many in (1, 2, 3, 4):
            turnings = [(names, signs) for names in itertools.permutations(range(many)) for signs in all_signs(many)]
            for _ in range(30):
                one = random_table(rnd, many, rnd.choice((1, 2)))
                other = random_table(rnd, many, 1)
                images = {helpers.led(one, turning) for turning in turnings}
                self.find(one, other, other in images)
                self.find(one, rnd.choice(sorted(images)), True)

    def test_signed_full_webs_by_all_turnings(self):
        for many in (4, 5):
            webs = [symmetric(many, lambda i, j: 0 if i == j else signs[i * (i - 1) // 2 + j])
                    for signs in itertools.product((-1, 1), repeat=many * (many - 1) // 2)]
            turnings = [(names, signs) for names in itertools.permutations(range(many)) for signs in all_signs(many)]
            images = {helpers.led(webs[1], turning) for turning in turnings}
            for other in webs[::many]:
                self.find(webs[1], other, other in images)

    def test_tables_that_are_led(self):
        rnd = seeded("great turnings")
        tables = [COLUMNS, SEATS, SIX_LINES, TEN_LINES, CUBE, SIGNED_CUBE, ROOKS, SIDES, PETERSEN, PRISM, zero_table(10), full_web(10), full_web(10, -1), ring_web(10), ring_web(10, -1),
                  star_web(9), web(10, [(k, k + 1) for k in range(0, 10, 2)]), symmetric(10, lambda i, j: 3),
                  symmetric(10, lambda i, j: 10 ** 20 - 1 if i != j else 1 - 10 ** 20), ((1, 0), (0, -1)),
                  helpers.beside(THREE, BENT, THREE), helpers.beside(((1,),), ((0,),), PATH, ((1,),), PATH),
                  symmetric(10, lambda i, j: 1 if i + j == 9 else 0)]
        for many in range(1, 11):
            tables += [random_table(rnd, many, 1), random_table(rnd, many, 10 ** 20 - 1), random_signed(rnd, many, 1),
                       random_signed(rnd, many, 2), random_signed(rnd, many, 4)]
        for table in tables:
            for _ in range(4):
                self.find(table, helpers.led(table, random_turning(rnd, len(table))), True)
            self.find(table, table, True)

    def test_tables_that_are_not(self):
        for one, other in [(PETERSEN, PRISM), (THREE, BENT), (THREE, full_web(3, -1)), (((1,),), ((-1,),)), (((0,),), ((1,),)),
                           (ring_web(10), ring_web(10, -1)), (full_web(10), full_web(10, -1)), (zero_table(2), full_web(2)),
                           (((1, 2), (2, 1)), ((1, 3), (3, 1))), (((1, 2), (2, 1)), ((-1, 2), (2, -1))),
                           (((1, 0), (0, -1)), ((1, 0), (0, 1))),
                           (star_web(4), helpers.beside(ring_web(4), ((0,),))), (CUBE, SIGNED_CUBE), (TEN_LINES, full_web(10)),
                           (COLUMNS, SEATS), (helpers.beside(COLUMNS, ((0,),)), helpers.beside(((0,),), SEATS)),
                           (SIX_LINES, full_web(6, -1)), (helpers.beside(SIX_LINES, THREE), helpers.beside(SIX_LINES, BENT)),
                           (helpers.beside(THREE, THREE), helpers.beside(THREE, BENT)),
                           (helpers.beside(THREE, THREE), ring_web(6)),
                           (helpers.beside(THREE, BENT, PATH), helpers.beside(BENT, BENT, PATH)),
                           (helpers.beside(*[full_web(2)] * 5), helpers.beside(ring_web(4), *[full_web(2)] * 3)),
                           (helpers.beside(zero_table(7), THREE), helpers.beside(zero_table(7), BENT))]:
            self.find(one, other, False)
            self.find(other, one, False)

    def test_tables_alike_but_for_one_entry(self):
        rnd = seeded("one entry")
        for many in range(2, 11):
            one = random_signed(rnd, many, 1)
            rows = [list(row) for row in helpers.led(one, random_turning(rnd, many))]
            rows[0][1] = rows[1][0] = 2
            self.find(one, tuple(tuple(row) for row in rows), False)

    def test_two_graphs_with_one_sign_changed(self):
        # The number of threes with the sign -1 stays as it is behind each turning.
        def minuses(table):
            threes = itertools.combinations(range(len(table)), 3)
            return sum(table[i][j] * table[j][k] * table[i][k] < 0 for i, j, k in threes)
        rnd = seeded("two graphs")
        for _ in range(20):
            one, other = random_signed(rnd, 9, 1), random_signed(rnd, 9, 1)
            one = symmetric(9, lambda i, j: 0 if i == j else one[i][j] or 1)
            other = symmetric(9, lambda i, j: 0 if i == j else other[i][j] or 1)
            if minuses(one) != minuses(other):
                self.find(one, other, False)

    def test_unlike_numbers_of_places(self):
        for one in range(1, 6):
            for other in range(1, 6):
                self.find(zero_table(one), zero_table(other), one == other)
        self.assertIs(turning_between(zero_table(3), zero_table(10)), None)

    def test_errors(self):
        for wrong in WRONG:
            self.raises(BadTable, wrong, turning_between, wrong, PATH)
            self.raises(BadTable, wrong, turning_between, PATH, wrong)
            self.raises(BadTable, wrong, turning_between, wrong, [])
            self.raises(BadTable, [], turning_between, [], wrong)


def plainly(table):
    """[1.5]'s table of plain signs, word by word."""
    many = len(table)
    signs = {}
    for part in helpers.parts_of(table):
        reached = {part[0]}
        signs[part[0]] = 1
        while len(reached) < len(part):
            i, j = min((i, j) for i in reached for j in part if j not in reached and table[i][j] != 0)
            signs[j] = signs[i] if table[i][j] > 0 else -signs[i]
            reached.add(j)
    return signed(table, signs)


class PlainSignsTests(Case):
    def test_examples(self):
        self.same(plain_signs(full_web(3, -1)), ((0, 1, 1), (1, 0, -1), (1, -1, 0)))
        self.same(plain_signs(((-5,),)), ((-5,),))
        self.same(plain_signs(((-5, -2), (-2, 3))), ((-5, 2), (2, 3)))
        self.same(plain_signs(helpers.beside(full_web(2, -1), full_web(2, -1))), helpers.beside(full_web(2), full_web(2)))

    def test_the_first_pair_reaches(self):
        # 0 reaches 3, 3 reaches 1, and then 1, not 3, reaches 2.
        table = web(4, [(0, 3), (1, 3), (2, 3), (1, 2)], -1)
        rows = [list(row) for row in web(4, [(0, 3), (1, 3), (2, 3), (1, 2)])]
        rows[2][3] = rows[3][2] = -1
        self.same(plain_signs(table), tuple(tuple(row) for row in rows))
        # The least place reaches all its neighbours, also greater ones, before others do.
        table = web(4, [(0, 1), (0, 3), (1, 2), (2, 3), (1, 3)], -1)
        self.same(plain_signs(table), plainly(table))
        self.assertEqual([table[i][j] for i, j in ((0, 1), (0, 3), (1, 2))], [-1, -1, -1])
        self.assertEqual([plain_signs(table)[i][j] for i, j in ((0, 1), (0, 3), (1, 2))], [1, 1, 1])

    def test_all_tables(self):
        rnd = seeded("plain signs")
        tables = some_tables(rnd)
        for many in range(2, 13):
            tables += [random_signed(rnd, many, part) for part in (1, 2, 3, 3, 4, 4, 5)]
        for table in tables:
            told = self.told(plain_signs, table)
            self.same(told, plainly(table))
            self.assertTrue(are_alike_in_signs(table, told))
            self.same(plain_signs(told), told)
            signs = [rnd.choice((1, -1)) for _ in table]
            self.same(plain_signs(signed(table, signs)), told)


if __name__ == "__main__":
    unittest.main()
