"""[4.2] to [4.4] and growing.py."""

import itertools
import unittest

from tests import helpers
from tests.helpers import (Case, any_values, beside, bent, full_web, kind_table, random_signed, random_turning, ring_web, seeded,
                           star_web, symmetric, zero_table)
from tests.test_kinds import held_by_hand, kind_by_base
from tests.test_lows import is_right as are_right_rows
from tests.test_roots import (GOOD, GREAT, LOW, PATH, PETERSEN, RINGED_E6, RINGED_E7, RINGED_E8, TRIANGLE, TWO, product_table,
                              wrong_webs)
from withintwo.errors import BadRow, BadWeb, NotJoined
from withintwo.growing import does_go_on, does_let, going_holds, judge_going, places_let, with_place
from withintwo.kinds import kinds_of
from withintwo.lows import is_good, judge_good

ONE = ((0,),)
STAR = star_web(3)
SAME = tuple(tuple(int(i == j) for j in range(6)) for i in range(6))
E6, E7, E8 = kind_table("E", 6), kind_table("E", 7), kind_table("E", 8)
JOINED = [table for table, _ in GOOD + GREAT if len(helpers.parts_of(table)) == 1]
PARTED = [zero_table(2), zero_table(10), beside(TWO, ONE), beside(ONE, E6), beside(STAR, full_web(3))]


def grown(table, c):
    """The table with the place c, by the words of [4.2]."""
    many = len(table)
    return symmetric(many + 1, lambda i, j: table[i][j] if i < many else (c + (0,))[j])


def are_entries(table, thing):
    return helpers.is_row(table, thing) and all(item in (-1, 0, 1) for item in thing)


def all_entries(many):
    return itertools.product((-1, 0, 1), repeat=many)


def all_signed_webs(many):
    pairs = list(itertools.combinations(range(many), 2))
    for entries in itertools.product((-1, 0, 1), repeat=len(pairs)):
        told = dict(zip(pairs, entries))
        yield symmetric(many, lambda i, j: told.get((j, i), 0))


def is_right(table, thing):
    """The words of [4.3]."""
    if type(thing) is not tuple or len(thing) != 2 or not isinstance(thing[0], str):
        return False
    rows = thing[1]
    if thing[0] == "plain":
        return are_right_rows(table, ("rows", rows)) and all(item % 2 == 0 for row in rows for item in row)
    if thing[0] != "six" or type(rows) is not tuple or len(rows) != 6:
        return False
    if not all(helpers.is_row(table, row) for row in rows):
        return False
    products = product_table(table)
    for i, j in itertools.product(range(6), repeat=2):
        product = sum(x * y for x, y in zip(rows[i], helpers.image(products, rows[j])))
        if product != (2 if i == j else E6[i][j]):
            return False
    return True


class PlaceTests(Case):
    def test_with_place(self):
        self.same(with_place(TWO, (0, -1)), ((0, 1, 0), (1, 0, -1), (0, -1, 0)))
        self.same(with_place(ONE, (1,)), TWO)
        rnd = seeded("with place")
        for many in range(1, 12):
            for part in (1, 3):
                table = random_signed(rnd, many, part)
                for c in ((0,) * many, (1,) * many, (-1,) * many, tuple(rnd.choice((-1, 0, 1)) for _ in range(many))):
                    self.same(self.told(with_place, table, c), grown(table, c))

    def test_twelve_places(self):
        for table in (zero_table(12), full_web(12, -1), kind_table("D", 12)):
            self.raises(BadWeb, table, with_place, table, (0,) * 12)
            self.raises(BadWeb, table, with_place, table, (1,) * 12)
            self.raises(BadRow, (0,) * 13, with_place, table, (0,) * 13)
            self.raises(BadRow, None, with_place, table, None)
        self.assertEqual(len(with_place(zero_table(11), (1,) * 11)), 12)

    def test_wrong_entries(self):
        for table in (ONE, TWO, PATH, STAR, zero_table(2)):
            many = len(table)
            things = any_values() + bent((1, 0, -1)[:many]) + bent((1,) * many)
            things += [(2,) * many, (0,) * (many - 1) + (2,), (0,) * (many - 1) + (-2,), (0,) * (many + 1), (True,) * many, (False,) * many,
                       [0] * many, (0,) * (many - 1) + (True,), (0,) * (many - 1) + (None,), "0" * many, (10 ** 99,) * many]
            for thing in things:
                if not are_entries(table, thing):
                    self.raises(BadRow, thing, with_place, table, thing)
                    self.raises(BadRow, thing, does_let, table, thing)
        for table in LOW:
            self.raises(BadRow, None, with_place, table, None)
            self.same(with_place(table, (0,) * len(table)), beside(table, ONE))

    def test_wrong_webs(self):
        for wrong in wrong_webs():
            self.raises(BadWeb, wrong, with_place, wrong, (0,))
            self.raises(BadWeb, wrong, with_place, wrong, None)
            self.raises(BadWeb, wrong, places_let, wrong)
            self.raises(BadWeb, wrong, does_let, wrong, (0,))
            self.raises(BadWeb, wrong, does_let, wrong, None)
        for table in LOW:
            self.too_low(table, does_let, (0,) * len(table))
            self.too_low(table, does_let, None)
            self.too_low(table, places_let)


class LetTests(Case):
    def check(self, table):
        """What places_let tells is what judging each larger web tells."""
        many = len(table)
        wanted = tuple(c for c in all_entries(many) if helpers.is_good(grown(table, c)))
        told = self.told(places_let, table)
        self.same(told, wanted)
        self.assertIn((0,) * many, told)
        self.assertEqual({tuple(-item for item in c) for c in told}, {*told})
        return told

    def test_examples(self):
        self.same(places_let(ONE), ((-1,), (0,), (1,)))
        self.assertEqual(len(places_let(TWO)), 9)
        self.whether(True, does_let, STAR, (1, 1, 1, 1))

    def test_few_places(self):
        for many in (1, 2, 3):
            for table in all_signed_webs(many):
                if helpers.is_good(table):
                    told = self.check(table)
                    for c in all_entries(many):
                        self.whether(c in told, does_let, table, c)
                        self.assertEqual(c in told, is_good(with_place(table, c)))

    def test_more_places(self):
        rnd = seeded("more places")
        tables = [star_web(4), full_web(5), ring_web(5), ring_web(5, -1), zero_table(5), kind_table("D", 5), beside(STAR, ONE)]
        for many in (4, 5):
            tables += [table for table in (random_signed(rnd, many, 2) for _ in range(60)) if helpers.is_good(table)][:6]
        for table in tables:
            told = self.check(table)
            for c in rnd.sample(list(all_entries(len(table))), 20):
                self.whether(c in told, does_let, table, c)

    def test_six_places(self):
        for table in (E6, full_web(6), beside(ring_web(4), TWO)):
            told = self.check(table)
            for c in told[::9] + ((1,) * 6, (0, 1) * 3):
                self.whether(c in told, does_let, table, c)
        self.assertEqual(len(places_let(zero_table(6))), sum(len(list(itertools.combinations(range(6), k))) * 2 ** k for k in range(5)))

    def test_turned_webs(self):
        rnd = seeded("turned places")
        for table in (PATH, star_web(4), ring_web(5), beside(STAR, ONE), E6):
            turning = random_turning(rnd, len(table))
            wanted = sorted(helpers.row_led(turning, c) for c in places_let(table))
            self.same(places_let(helpers.led(table, turning)), tuple(wanted))

    def test_webs_of_up_to_nine_places(self):
        rnd = seeded("nine places")
        let = 0
        for table, roots in GOOD:
            if len(table) > 9:
                continue
            few = rnd.sample(sorted(roots), min(3, len(roots)))
            # What roots tell is let where it has no item 2 or -2; a changed item mostly is not let.
            for c in few + [root[:-1] + (root[-1] - 1,) for root in few] + [tuple(rnd.choice((-1, 0, 0, 0, 1)) for _ in table)]:
                if are_entries(table, c):
                    wanted = helpers.is_good(grown(table, c))
                    let += wanted
                    self.whether(wanted, does_let, table, c)
        self.assertGreater(let, 40)

    def test_beyond_the_kinds(self):
        # All places that a web of the kind E8 lets are told by its roots.
        for c in itertools.islice(all_entries(8), 0, None, 97):
            self.whether(helpers.is_good(grown(E8, c)), does_let, E8, c)
        self.whether(True, does_let, E8, (0,) * 8)
        self.whether(False, does_let, star_web(4), (1, 0, 0, 0, 0))
        self.whether(True, does_let, star_web(4), (0, 1, -1, 0, 0))

    def test_kinds_of_what_comes(self):
        rnd = seeded("kinds of what comes")
        ranks = {0: 0, 1: 0}
        for table in JOINED:
            if len(table) <= 6:
                (before,) = kinds_of(table)
                told = [c for c in places_let(table) if any(c)]
                for c in rnd.sample(told, min(12, len(told))):
                    larger = grown(table, c)
                    (behind,) = kinds_of(larger)
                    self.assertEqual(behind, kind_by_base(larger))
                    self.assertTrue(held_by_hand(behind, before), (table, c))
                    ranks[behind[1] - before[1]] += 1
        self.assertTrue(min(ranks.values()) > 20, ranks)


class GoingTests(Case):
    def judged(self, table):
        told = self.told(judge_going, table)
        self.assertTrue(is_right(table, told), (table, told))
        self.assertTrue(all(abs(item) < 10 ** 1000 for row in told[1] for item in row))
        self.whether(True, going_holds, table, told)
        self.whether(told[0] == "plain", does_go_on, table)
        return told[0]

    def test_examples(self):
        self.whether(True, does_go_on, STAR)
        self.whether(True, does_go_on, ONE)
        self.whether(True, going_holds, E6, ("six", SAME))
        self.whether(False, does_go_on, E6)

    def test_joined_webs(self):
        kinds = set()
        for table in JOINED:
            kind = kind_by_base(table)
            kinds.add(kind[0])
            self.assertEqual(self.judged(table), "six" if kind[0] == "E" else "plain")
        self.assertEqual(kinds, {"A", "D", "E"})

    def test_told_webs(self):
        for table, wanted in ((PETERSEN, "six"), (TRIANGLE, "plain"), (RINGED_E6, "six"), (RINGED_E7, "six"), (RINGED_E8, "six"),
                              (kind_table("A", 10), "plain"), (kind_table("D", 10), "plain"), (full_web(10), "plain"),
                              (ring_web(10, -1), "plain"), (E7, "six"), (E8, "six"), (kind_table("A", 12), "plain")):
            self.assertEqual(self.judged(table), wanted)

    def test_turned_webs(self):
        rnd = seeded("turned going")
        for table in (E6, E7, E8, RINGED_E7, STAR, star_web(4), ring_web(7, -1), PETERSEN):
            kind = judge_going(table)[0]
            for _ in range(3):
                self.assertEqual(self.judged(helpers.led(table, random_turning(rnd, len(table)))), kind)

    def test_growing_without_end(self):
        # A web of the kind A or D has a place more that it lets, joined with it and of a greater rank.
        for table in (ONE, TWO, STAR, full_web(4)):
            rank = kinds_of(table)[0][1]
            for _ in range(4):
                cs = places_let(table) if len(table) <= 6 else [(0,) * (len(table) - 1) + (1,)]
                table = next(grown(table, c) for c in cs if kinds_of(grown(table, c)) in ((("A", rank + 1),), (("D", rank + 1),)))
                rank += 1
                self.whether(True, does_go_on, table)

    def check(self, table, thing, wanted=None):
        right = is_right(table, thing)
        if wanted is not None:
            self.assertIs(right, wanted, (table, thing))
        self.whether(right, going_holds, table, thing)

    def test_plain_rows(self):
        self.check(ONE, ("plain", ((2, 2),)), True)
        self.check(ONE, ("plain", ((2, 0, -2),)), True)
        self.check(ONE, ("plain", ((1,) * 8,)), False)
        self.check(ONE, ("plain", ((2, 1, 1, 1, 1),)), False)
        self.check(ONE, ("plain", ((0,) * 22 + (2, 2),)), True)
        self.check(ONE, ("plain", ((0,) * 23 + (2, 2),)), False)
        self.check(TWO, ("plain", ((2, 2, 0), (2, 0, 2))), True)
        self.check(TWO, ("plain", ((1,) * 8, (2, 2) + (0,) * 6)), False)
        self.check(TWO, ("plain", ((2, 2) + (0,) * 6, (1,) * 8)), False)
        self.check(TWO, ("rows", ((2, 2, 0), (2, 0, 2))), False)
        self.check(((0, -1), (-1, 0)), ("plain", ((2, 2, 0), (2, 0, 2))), False)
        self.check(STAR, ("plain", ((2, 2, 0, 0), (2, 0, 2, 0), (2, 0, -2, 0), (0, 2, 0, 2))), True)
        halves = ((1,) * 8, (2, 2) + (0,) * 6, (0, 0, 2, 2) + (0,) * 4, (0,) * 4 + (2, 2, 0, 0))
        self.assertTrue(are_right_rows(STAR, ("rows", halves)))
        self.check(STAR, ("plain", halves), False)
        for table in (E6, E7, E8):
            self.check(table, ("plain", judge_good(table)[1]), False)

    def test_six_rows(self):
        places = {7: (0, 1, 2, 3, 4, 6), 8: (0, 1, 2, 3, 4, 7)}
        for table in (E7, E8):
            rows = tuple(tuple(int(k == place) for k in range(len(table))) for place in places[len(table)])
            self.check(table, ("six", rows), True)
            self.check(table, ("six", tuple(tuple(-item for item in row) for row in rows)), True)
            self.check(table, ("six", rows[:5]), False)
            self.check(table, ("six", rows + rows[:1]), False)
            self.check(table, ("six", rows[::-1]), False)
            self.check(table, ("six", rows[:4] + (rows[5], rows[4])), False)
        self.check(E6, ("six", SAME), True)
        self.check(E6, ("six", SAME[4::-1] + SAME[5:]), True)
        self.check(E6, ("six", (tuple(-item for item in SAME[0]),) + SAME[1:]), False)
        self.check(E6, ("six", tuple(list(row) for row in SAME)), False)

    def test_products_one_off(self):
        for table in (E6, RINGED_E6, E7, PETERSEN):
            rows = judge_going(table)[1]
            for at in range(6):
                for place in range(len(table)):
                    for more in (1, -1, 2):
                        changed = rows[at][:place] + (rows[at][place] + more,) + rows[at][place + 1:]
                        thing = ("six", rows[:at] + (changed,) + rows[at + 1:])
                        self.assertIs(going_holds(table, thing), is_right(table, thing), (table, thing))

    def test_great_integers(self):
        # A row that the product table weighs with 0 can be added as often as one likes.
        great = 10 ** 29
        for table, zero in ((RINGED_E6, (1, 2, 3, 2, 1, 2, 1)), (RINGED_E8, (2, 4, 6, 5, 4, 3, 2, 1, 3))):
            self.assertFalse(any(helpers.image(product_table(table), zero)))
            rows = judge_going(table)[1]
            more = tuple(tuple(x + (at - 2) * great * y for x, y in zip(row, zero)) for at, row in enumerate(rows))
            self.check(table, ("six", more), True)
            self.check(table, ("six", more[:5] + ((more[5][0] + 1,) + more[5][1:],)), False)
        self.check(E6, ("six", tuple(tuple(great * item for item in row) for row in SAME)), False)
        self.check(TWO, ("plain", ((2 * great, 2, 0), (2, 0, 2))), False)

    def test_certificates_of_the_other_kind(self):
        for table in JOINED:
            if kind_by_base(table)[0] != "E":
                rows = ((1,) + (0,) * (len(table) - 1),) * 6
                self.check(table, ("six", rows), False)
        for table in (TWO, STAR, PATH, kind_table("D", 6), kind_table("A", 6)):
            self.check(table, ("six", SAME), False)
            self.check(table, judge_going(E6), False)
            self.check(E6, judge_going(table), False)

    def test_any_value(self):
        for table in (ONE, TWO, STAR, RINGED_E6):
            things = any_values() + bent(judge_going(table), [None, True, 0, 1, 2, "plain", "six", (), [], (2, 2)])
            things += [("plain",), ("six",), ("six", ()), ("plain", ()), ("rows", judge_good(table)[1]), ("plain", judge_good(table)[1], ()),
                       ["plain", judge_good(table)[1]], ("plain", ((2, 2),)), ("six", (True,) * 6), ("six", ((0,) * len(table),) * 6)]
            for thing in things:
                self.assertIs(going_holds(table, thing), is_right(table, thing), (table, thing))

    def test_errors(self):
        for wrong in wrong_webs():
            self.raises(BadWeb, wrong, judge_going, wrong)
            self.raises(BadWeb, wrong, does_go_on, wrong)
            self.raises(BadWeb, wrong, going_holds, wrong, None)
        for table in LOW + [beside(ONE, star_web(5)), beside(full_web(4, -1), TWO)]:
            self.too_low(table, judge_going)
            self.too_low(table, does_go_on)
            self.too_low(table, going_holds, ("plain", ()))
        for table in PARTED:
            for function, arguments in ((judge_going, ()), (does_go_on, ()), (going_holds, (None,))):
                error = self.raised(function, table, *arguments)
                self.assertIs(type(error), NotJoined)
                self.assertEqual(vars(error), {})


if __name__ == "__main__":
    unittest.main()
