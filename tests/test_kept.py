"""[6.2] to [6.7] and kept.py."""

import itertools
import math
import unittest
from fractions import Fraction

from tests import helpers
from tests.helpers import (Case, any_values, beside, bent, full_web, random_signed, random_turning, ring_web, seeded, star_web, web,
                           zero_table)
from tests.linework import random_web, shuffled
from tests.test_bars import all_webs, wrong_for_webs
from tests.test_diagrams import NAMES, RINGED, diagram_by_hand, high_webs, is_high_row, never_high, too_high, webs_never_high
from tests.test_roots import wrong_webs
from withintwo.errors import BadWeb
from withintwo.kept import (below_holds, high_comings, is_below_two, is_never_high, judge_below, judge_kept, kept_holds, kept_rows,
                            ring_ends, ring_sign)
from withintwo.lows import is_good
from withintwo.turnings import judge_signs
from withintwo.values import kept_base, many_values

ONE, TWO, THREE, FOUR = zero_table(1), full_web(2), full_web(3), full_web(4)
PATH = web(3, [(0, 1), (1, 2)])


def is_kept(table, thing):
    """Whether any value is a row as in [6.4] for never above 2."""
    if not helpers.is_row(table, thing) or min(thing) <= 0:
        return False
    return all(sum(thing[j] for j in range(len(table)) if table[i][j]) <= 2 * thing[i] for i in range(len(table)))


def kept_right(table, thing):
    """The words of [6.4]."""
    if type(thing) is not tuple or len(thing) != 2 or not isinstance(thing[0], str):
        return False
    return (thing[0] == "kept" and is_kept(table, thing[1])) or (thing[0] == "high" and is_high_row(table, thing[1]))


def below_right(table, thing):
    """The words of [6.5]."""
    if type(thing) is not tuple or not thing or not isinstance(thing[0], str):
        return False
    if thing[0] == "less":
        if len(thing) != 2 or not is_kept(table, thing[1]):
            return False
        image = helpers.image(table, thing[1])
        return all(any(image[i] < 2 * thing[1][i] for i in part) for part in helpers.parts_of(table))
    if thing[0] != "ringed" or len(thing) != 3 or thing[1] not in RINGED or not helpers.is_int(thing[1][1]):
        return False
    places, wanted = thing[2], diagram_by_hand(thing[1])
    if not helpers.are_ints(places, len(wanted)) or len({*places}) < len(places) or not {*places} <= {*range(len(table))}:
        return False
    return all(table[places[i]][places[j]] or not wanted[i][j] for i in range(len(wanted)) for j in range(len(wanted)))


def below_two(table):
    return helpers.inertia(table, Fraction(2))[:1] == (len(table),)


def with_coming(table, coming):
    return tuple(row + (item,) for row, item in zip(table, coming)) + (coming + (0,),)


def some_webs():
    rnd = seeded("webs around two")
    found = webs_never_high() + high_webs()
    found += [random_web(rnd, many, part) for many in (5, 6, 7, 9, 11, 12) for part in (4, 8, 12, 16, 25, 50, 90) for _ in range(3)]
    # One ringed part among others that are below 2, and one that is above 2.
    for name in RINGED:
        table = diagram_by_hand(name)
        if len(table) < 12:
            found.append(shuffled(rnd, beside(table, *[ONE] * min(2, 12 - len(table)))))
            found.append(shuffled(rnd, beside(*[ONE] * (12 - len(table)), table)))
        if len(table) <= 7:
            found.append(shuffled(rnd, beside(star_web(4) if len(table) != 5 else THREE, table)))
    return found


WEBS = some_webs()


class NeverHighTests(Case):
    def judged(self, table):
        """What is told is right, of the one kind that there is, and accepted."""
        wanted = "kept" if never_high(table) else "high"
        told = self.told(judge_kept, table)
        self.assertEqual(told[0], wanted)
        self.assertTrue(kept_right(table, told), (table, told))
        self.assertTrue(all(item < 10 ** 1000 for item in told[1]))
        self.whether(True, kept_holds, table, told)
        self.whether(wanted == "kept", is_never_high, table)

    def test_examples(self):
        self.whether(False, is_never_high, FOUR)
        self.whether(True, kept_holds, FOUR, ("high", (1, 1, 1, 1)))
        self.whether(False, kept_holds, FOUR, ("kept", (1, 1, 1, 1)))

    def test_webs(self):
        for table in WEBS:
            self.judged(table)

    def test_few_places(self):
        for many in (1, 2, 3, 4, 5):
            for table in all_webs(many):
                self.judged(table)

    def test_never_below_either(self):
        for table in WEBS:
            if is_never_high(table):
                self.assertTrue(is_good(table))

    def check(self, table, thing, wanted=None):
        right = kept_right(table, thing)
        if wanted is not None:
            self.assertIs(right, wanted, (table, thing))
        self.whether(right, kept_holds, table, thing)

    def test_kept_rows(self):
        great = 10 ** 29
        self.check(ONE, ("kept", (1,)), True)
        self.check(ONE, ("kept", (great,)), True)
        self.check(ONE, ("kept", (0,)), False)
        self.check(ONE, ("kept", (-1,)), False)
        self.check(TWO, ("kept", (1, 2)), True)
        self.check(TWO, ("kept", (1, 3)), False)
        self.check(TWO, ("kept", (great, 2 * great)), True)
        self.check(TWO, ("kept", (great, 2 * great + 1)), False)
        self.check(THREE, ("kept", (1, 1, 1)), True)
        self.check(THREE, ("kept", (1, 1, 2)), False)
        self.check(PATH, ("kept", (2, 3, 2)), True)
        self.check(PATH, ("kept", (2, 4, 2)), True)
        self.check(PATH, ("kept", (2, 5, 2)), False)
        self.check(PATH, ("kept", (-2, -3, -2)), False)
        self.check(beside(THREE, ONE), ("kept", (1, 1, 1, 0)), False)
        self.check(beside(THREE, ONE), ("kept", (5, 5, 5, 1)), True)
        for row in itertools.product(range(-1, 4), repeat=3):
            for table in (PATH, THREE, zero_table(3)):
                self.check(table, ("kept", row))
                self.check(table, ("high", row), False)

    def test_high_rows(self):
        great = 10 ** 29
        self.check(FOUR, ("high", (great, great, great, great + 1)), True)
        self.check(FOUR, ("high", (1, 1, 1, -1)), False)
        self.check(FOUR, ("high", (-1, -1, -1, -1)), False)
        self.check(FOUR, ("high", (1, 1, 1, 0)), False)
        self.check(FOUR, ("high", (0, 0, 0, 0)), False)
        self.check(star_web(5), ("high", (2, 1, 1, 1, 1, 1)), True)
        self.check(star_web(5), ("high", (2, 1, 1, 1, 1, 0)), False)
        self.check(star_web(4), ("high", (2, 1, 1, 1, 1)), False)
        for row in itertools.product(range(-1, 3), repeat=4):
            self.check(FOUR, ("high", row))
            self.check(FOUR, ("kept", row), False)

    def test_any_value(self):
        for table in (ONE, TWO, PATH, THREE, FOUR, beside(FOUR, ONE)):
            told = judge_kept(table)
            things = any_values() + bent(told) + [("kept",), ("kept", told[1], ()), ["kept", told[1]], ("less", told[1]), ("Kept", told[1]),
                                                  ("kept", (True,) * len(table)), ("high", (True,) * len(table)), ("kept", "1")]
            for thing in things:
                self.assertIs(kept_holds(table, thing), kept_right(table, thing), (table, thing))

    def test_wrong_webs(self):
        for wrong in wrong_for_webs():
            for function in (is_never_high, judge_kept, is_below_two, judge_below, kept_rows, high_comings):
                self.raises(BadWeb, wrong, function, wrong)
            for function in (kept_holds, below_holds):
                for thing in (None, ("kept", (1,)), ("less", (1,))):
                    self.raises(BadWeb, wrong, function, wrong, thing)


class BelowTests(Case):
    def judged(self, table):
        wanted = "less" if below_two(table) else "ringed"
        told = self.told(judge_below, table)
        self.assertEqual(told[0], wanted)
        self.assertTrue(below_right(table, told), (table, told))
        self.whether(True, below_holds, table, told)
        self.whether(wanted == "less", is_below_two, table)

    def test_examples(self):
        self.whether(True, below_holds, FOUR, ("ringed", ("A+", 2), (0, 1, 2)))

    def test_webs(self):
        for table in WEBS:
            self.judged(table)

    def test_few_places(self):
        for many in (1, 2, 3, 4, 5):
            for table in all_webs(many):
                self.judged(table)

    def test_diagrams(self):
        rnd = seeded("below two")
        for name in NAMES:
            table = diagram_by_hand(name)
            self.whether(name not in RINGED, is_below_two, table)
            self.judged(shuffled(rnd, table))

    def check(self, table, thing, wanted=None):
        right = below_right(table, thing)
        if wanted is not None:
            self.assertIs(right, wanted, (table, thing))
        self.whether(right, below_holds, table, thing)

    def test_less_rows(self):
        great = 10 ** 29
        self.check(ONE, ("less", (1,)), True)
        self.check(TWO, ("less", (1, 1)), True)
        self.check(TWO, ("less", (1, 2)), True)
        self.check(TWO, ("less", (great, 2 * great)), True)
        self.check(TWO, ("less", (great, 2 * great + 1)), False)
        self.check(THREE, ("less", (1, 1, 1)), False)
        self.check(beside(THREE, ONE), ("less", (1, 1, 1, 1)), False)
        self.check(beside(ONE, THREE), ("less", (1, 1, 1, 1)), False)
        self.check(beside(TWO, ONE), ("less", (1, 1, 1)), True)
        self.check(beside(TWO, ONE), ("less", (1, 1, 0)), False)
        self.check(beside(TWO, ONE), ("kept", (1, 1, 1)), False)
        self.check(FOUR, ("less", (1, 1, 1, 1)), False)
        for row in itertools.product(range(4), repeat=3):
            for table in (PATH, THREE, zero_table(3), beside(TWO, ONE)):
                self.check(table, ("less", row))

    def test_ringed_places(self):
        self.check(FOUR, ("ringed", ("A+", 2), (3, 1, 0)), True)
        self.check(FOUR, ("ringed", ("A+", 3), (0, 1, 2, 3)), True)
        self.check(FOUR, ("ringed", ("A+", 3), (2, 0, 3, 1)), True)
        self.check(FOUR, ("ringed", ("A", 3), (0, 1, 2)), False)
        self.check(FOUR, ("ringed", ("A+", 2), (0, 1, 1)), False)
        self.check(FOUR, ("ringed", ("A+", 2), (0, 1, 4)), False)
        self.check(FOUR, ("ringed", ("A+", 2), (0, 1, -1)), False)
        self.check(FOUR, ("ringed", ("A+", 2), (0, 1, 2, 3)), False)
        self.check(FOUR, ("ringed", ("A+", 4), (0, 1, 2, 3)), False)
        self.check(full_web(5), ("ringed", ("D+", 4), (0, 4, 1, 2, 3)), True)
        self.check(star_web(4), ("ringed", ("D+", 4), (1, 0, 2, 3, 4)), True)
        self.check(star_web(4), ("ringed", ("D+", 4), (0, 1, 2, 3, 4)), False)
        # With a place twice even two tied places would have the ties of some diagrams.
        self.check(TWO, ("ringed", ("A+", 3), (0, 1, 0, 1)), False)
        self.check(TWO, ("ringed", ("D+", 4), (1, 0, 1, 1, 1)), False)
        self.check(star_web(3), ("ringed", ("D+", 4), (1, 0, 2, 3, 3)), False)
        self.check(PATH, ("ringed", ("A+", 11), (0, 1, 2, 1) * 3), False)
        for name in RINGED:
            many = len(diagram_by_hand(name))
            places = tuple(range(many))
            self.check(diagram_by_hand(name), ("ringed", name, places), True)
            self.check(full_web(many), ("ringed", name, places[::-1]), True)
            if many < 12:
                self.check(full_web(many + 1), ("ringed", name, tuple(place + 1 for place in places)), True)
            self.check(zero_table(many), ("ringed", name, places), False)

    def test_more_ties_and_fewer(self):
        rnd = seeded("more ties")
        for name in RINGED:
            table = diagram_by_hand(name)
            many = len(table)
            for i, j in itertools.combinations(range(many), 2):
                rows = [list(row) for row in table]
                rows[i][j] = rows[j][i] = 1 - table[i][j]
                changed = tuple(tuple(row) for row in rows)
                self.check(changed, ("ringed", name, tuple(range(many))), table[i][j] == 0)
            order = tuple(rnd.sample(range(many), many))
            self.check(table, ("ringed", name, order))

    def test_any_value(self):
        for table in (ONE, TWO, THREE, FOUR, beside(ONE, THREE), beside(TWO, ONE)):
            told = judge_below(table)
            things = any_values() + bent(told, [None, True, 0, 1, 2, "A", "A+", "ringed", (), [], ("A+", 2), (0, 1, 2)])
            things += [("less",), ("ringed",), ("ringed", ("A+", 2)), ("ringed", ("A+", 2), (0, 1, 2), ()), ["ringed", ("A+", 2), (0, 1, 2)],
                       ("ringed", ["A+", 2], (0, 1, 2)), ("ringed", ("A+", 2), [0, 1, 2]), ("ringed", ("A+", 2), (0, True, 2)),
                       ("ringed", ("A+", 2), (False, 1, 2)), ("less", (True,) * len(table)), ("ringed", ("A+", True), (0, 1)),
                       ("ringed", ("A+", 1), (0, 1)), ("ringed", "A+", (0, 1, 2)), ("high", (1,) * len(table))]
            for thing in things:
                self.assertIs(below_holds(table, thing), below_right(table, thing), (table, thing))


class KeptRowTests(Case):
    def test_examples(self):
        self.same(kept_rows(THREE), ((1, 1, 1),))
        self.same(kept_rows(TWO), ())
        self.same(kept_rows(beside(star_web(4), THREE)), ((0, 0, 0, 0, 0, 1, 1, 1), (2, 1, 1, 1, 1, 0, 0, 0)))
        self.same(kept_rows(beside(THREE, star_web(4))), ((0, 0, 0, 2, 1, 1, 1, 1), (1, 1, 1, 0, 0, 0, 0, 0)))

    def test_rows(self):
        for table in WEBS:
            if not never_high(table):
                too_high(self, table, kept_rows)
                continue
            told = self.told(kept_rows, table)
            self.assertEqual(list(told), sorted({*told}))
            parts = set()
            for row in told:
                self.assertEqual(helpers.image(table, row), tuple(2 * item for item in row))
                self.assertEqual(math.gcd(*row), 1)
                self.assertGreaterEqual(min(row), 0)
                parts.add(tuple(place for place in range(len(table)) if row[place]))
            self.assertTrue(parts <= {*helpers.parts_of(table)})
            self.assertEqual(len(parts), helpers.inertia(table, Fraction(2))[1])
            self.same(tuple(sorted(kept_base(table, 2))), told)


class ComingTests(Case):
    def test_examples(self):
        self.same(high_comings(THREE), ((0, 0, 0),))
        self.same(high_comings(TWO), ((0, 0), (0, 1), (1, 0), (1, 1)))

    def by_trying(self, table):
        return tuple(c for c in itertools.product((0, 1), repeat=len(table)) if never_high(with_coming(table, c)))

    def test_few_places(self):
        for many in (1, 2, 3, 4):
            for table in all_webs(many):
                if never_high(table):
                    self.same(self.told(high_comings, table), self.by_trying(table))
                else:
                    too_high(self, table, high_comings)

    def test_more_places(self):
        rnd = seeded("more comings")
        tables = [table for table in webs_never_high() if 5 <= len(table) <= 7]
        for table in rnd.sample(tables, 14) + [zero_table(6), beside(TWO, TWO, TWO)]:
            self.same(self.told(high_comings, table), self.by_trying(table))

    def test_eleven_places(self):
        rnd = seeded("eleven comings")
        tables = [zero_table(11), diagram_by_hand(("A", 11)), diagram_by_hand(("D", 11)), ring_web(11), diagram_by_hand(("D+", 10)),
                  beside(diagram_by_hand(("E", 6)), diagram_by_hand(("A", 5))), beside(diagram_by_hand(("E+", 6)), diagram_by_hand(("A", 4))),
                  beside(diagram_by_hand(("E", 8)), ONE, TWO)]
        for table in tables:
            told = self.told(high_comings, table)
            self.assertEqual(list(told), sorted({*told}))
            self.assertTrue(all(sum(c) <= 4 for c in told))
            for c in rnd.sample(told, min(len(told), 15)) + [tuple(int(k in some) for k in range(11)) for some in
                                                             itertools.islice(itertools.combinations(range(11), 2), 0, None, 3)]:
                self.assertEqual(c in told, never_high(with_coming(table, c)))
        self.assertEqual(len(high_comings(zero_table(11))), 1 + 11 + 55 + 165 + 330)
        self.assertEqual(high_comings(ring_web(11)), ((0,) * 11,))

    def test_high_webs(self):
        for table in high_webs():
            if len(table) <= 11:
                too_high(self, table, high_comings)


class RingTests(Case):
    def test_examples(self):
        bent_three = ((0, 1, -1), (1, 0, 1), (-1, 1, 0))
        self.same([ring_sign(bent_three), ring_ends(bent_three), ring_ends(THREE), ring_ends(TWO)], [-1, (False, True), (True, False), None])

    def test_rings(self):
        rnd = seeded("signed rings")
        for many in range(3, 13):
            for last in (1, -1):
                for _ in range(4):
                    table = helpers.led(ring_web(many, last), random_turning(rnd, many))
                    self.same(self.told(ring_sign, table), last)
                    values = (helpers.inertia(table, Fraction(2)), helpers.inertia(table, Fraction(-2)))
                    self.assertEqual((values[0][2], values[1][0]), (0, 0))
                    self.same(self.told(ring_ends, table), (values[0][1] > 0, values[1][1] > 0))
                    self.same(ring_ends(table), tuple(many_values(table, number)[1] > 0 for number in ((2, 1), (-2, 1))))

    def is_ring(self, table):
        """The words of [6.7]: a ring through all places that has all ties."""
        many = len(table)
        orders = ((0,) + order for order in itertools.permutations(range(1, many)))
        ties = sum(entry != 0 for row in table for entry in row)
        return many >= 3 and ties == 2 * many and any(all(table[order[k - 1]][order[k]] for k in range(many)) for order in orders)

    def test_few_places(self):
        for many in (1, 2, 3, 4):
            pairs = list(itertools.combinations(range(many), 2))
            for entries in itertools.product((-1, 0, 1), repeat=len(pairs)):
                told = dict(zip(pairs, entries))
                table = helpers.symmetric(many, lambda i, j: told.get((j, i), 0))
                if self.is_ring(table):
                    self.same(ring_sign(table), math.prod(entry for entry in entries if entry))
                    self.assertIsInstance(ring_ends(table), tuple)
                else:
                    self.same(ring_sign(table), None)
                    self.same(ring_ends(table), None)

    def test_no_rings(self):
        rnd = seeded("no rings")
        ring = ring_web(7, -1)
        tables = [zero_table(1), zero_table(12), TWO, PATH, FOUR, star_web(3), beside(THREE, THREE), beside(ring_web(5, -1), ONE),
                  beside(ring_web(6), ring_web(6, -1)), web(7, [(k, k + 1) for k in range(6)]), web(5, [(0, 1), (1, 2), (2, 0), (2, 3), (3, 4), (4, 2)])]
        for i, j in itertools.combinations(range(7), 2):
            rows = [list(row) for row in ring]
            rows[i][j] = rows[j][i] = 0 if ring[i][j] else rnd.choice((1, -1))
            tables.append(tuple(tuple(row) for row in rows))
        for table in tables:
            self.same(self.told(ring_sign, table), None)
            self.same(self.told(ring_ends, table), None)

    def test_ties_without_rings(self):
        rnd = seeded("ties without rings")
        for many in (2, 5, 9, 12):
            ties = [(rnd.randrange(k), k) for k in range(1, many)]
            sizes = web(many, ties)
            table = helpers.symmetric(many, lambda i, j: sizes[i][j] * rnd.choice((1, -1)))
            self.assertEqual(judge_signs(table, sizes)[0], "signs")
            self.same(ring_sign(table), None)

    def test_wrong_webs(self):
        for wrong in wrong_webs():
            self.raises(BadWeb, wrong, ring_sign, wrong)
            self.raises(BadWeb, wrong, ring_ends, wrong)
        for table in (random_signed(seeded("any signed web"), 12, 2), full_web(12, -1)):
            self.same(ring_sign(table), None)


if __name__ == "__main__":
    unittest.main()
