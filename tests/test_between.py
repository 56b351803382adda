"""[7.1], [7.3] to [7.5] and between.py."""

import itertools
import math
import unittest
from fractions import Fraction

from tests import helpers
from tests.helpers import (Case, any_values, beside, bent, full_web, random_turning, ring_web, seeded, star_web, symmetric, web,
                           zero_table)
from tests.test_greatest import NAMES, S_NAMES, greatest_by_hand, seat_right, seats_with_webs
from withintwo.between import (between_holds, does_reach_on, holders, is_between, judge_between, places_between,
                               with_looped_place)
from withintwo.errors import BadRow, BadWeb, Beyond, NotJoined

THREE = full_web(3)
FOUR = full_web(4)
PATH = ((0, 1, 0), (1, 0, 1), (0, 1, 0))
ONES = [((0,),), ((1,),), ((-1,),)]
SEATED = [table for table, _ in seats_with_webs(8)]


def by_values(table):
    """Whether no value is above 2 and none below -2."""
    return helpers.inertia(table, Fraction(-2))[0] == 0 and helpers.inertia(table, Fraction(2))[2] == 0


def is_beyond_row(table, thing):
    if not helpers.is_row(table, thing):
        return False
    return helpers.weight(table, thing) > 2 * helpers.square(thing) or helpers.weight(table, thing) < -2 * helpers.square(thing)


def is_right(table, thing):
    """The words of [7.3]."""
    if type(thing) is not tuple or len(thing) != 2 or not isinstance(thing[0], str):
        return False
    if thing[0] == "beyond":
        return is_beyond_row(table, thing[1])
    parts = helpers.parts_of(table)
    if thing[0] != "placed" or type(thing[1]) is not tuple or len(thing[1]) != len(parts):
        return False
    return all(seat_right(helpers.within(table, part), seat) for part, seat in zip(parts, thing[1]))


def is_held_by_hand(table, name):
    """Whether there is a seat, by trying all places and signs, one place of the web behind the other."""
    seats = greatest_by_hand(name)

    def goes_on(places, signs):
        at = len(places)
        if at == len(table):
            return True
        for place in range(len(seats)):
            for sign in (1, -1):
                if place in places or seats[place][place] != table[at][at]:
                    continue
                if all(seats[place][places[k]] * sign * signs[k] == table[at][k] for k in range(at)):
                    if goes_on(places + [place], signs + [sign]):
                        return True
        return False

    return goes_on([], [])


def looped(table, loops):
    return symmetric(len(table), lambda i, j: loops[i] if i == j else table[i][j])


def all_looped_webs(many):
    pairs = [(i, j) for i in range(many) for j in range(i + 1)]
    for entries in itertools.product((-1, 0, 1), repeat=len(pairs)):
        told = dict(zip(pairs, entries))
        yield symmetric(many, lambda i, j: told[i, j])


def random_looped(rnd, many, part):
    return symmetric(many, lambda i, j: 0 if rnd.randrange(part) else rnd.choice((1, -1)))


def changed(rnd, table):
    """The table with one entry changed."""
    i = rnd.randrange(len(table))
    j = rnd.randrange(i + 1)
    entry = rnd.choice([item for item in (-1, 0, 1) if item != table[i][j]])
    return symmetric(len(table), lambda k, m: entry if (k, m) == (i, j) else table[k][m])


def some_webs():
    """Looped webs of up to eight places, some of them between and some not."""
    rnd = seeded("looped webs")
    found = list(ONES) + [THREE, FOUR, PATH, star_web(4), star_web(5), ring_web(8), ring_web(8, -1), ring_web(7, -1), zero_table(8)]
    found += [zero_table(many) for many in range(2, 8)] + [looped(zero_table(8), (1, -1) * 4), looped(zero_table(3), (1, 0, -1))]
    found += [beside(THREE, *ONES), beside(FOUR, ((0,),)), beside(((1,),), ring_web(4), ((-1,),)), beside(((1, 1), (1, 1)), ((-1, 1), (1, -1))),
              beside(ring_web(3), full_web(4)), beside(((1, 1), (1, 1)), PATH, ((0,),)), beside(star_web(4), THREE), full_web(8), full_web(8, -1)]
    found += [helpers.within(greatest_by_hand(name), lot) for name, lot in ((("S", 7, 1), range(7)), (("S", 8, 0), range(8)), (("S", 8, 1), range(8)),
                                                                            (("T", 3), range(6)), (("T", 4), range(8)), (("C", 4, 1, -1), range(8)))]
    for many in range(1, 9):
        for part in (1, 2, 3, 4, 6):
            found.append(random_looped(rnd, many, part))
    found += SEATED[::3] + [changed(rnd, table) for table in SEATED[::4]]
    for one, other in zip(SEATED[2::9], SEATED[5::7]):
        if len(one) + len(other) <= 8:
            found.append(beside(one, other))
    for table in [table for table in found if len(table) > 2][::6]:
        names = list(range(len(table)))
        rnd.shuffle(names)
        found.append(helpers.led(table, (tuple(names), (1,) * len(names))))
    return found


WEBS = some_webs()
JOINED = [table for table in WEBS if len(helpers.parts_of(table)) == 1]


def wrong_looped_webs():
    things = any_values() + bent(PATH) + [((2,),), ((-2,),), ((0, 2), (2, 0)), zero_table(13), ((0, True), (True, 0)), ((0, 1), (-1, 0)), ((True,),),
                                          [[0]], ((1, 1), (1, 1), (1, 1)), ((0, 1), (1, 0), (0, 0))]
    return [thing for thing in things if not helpers.is_looped_web(thing)]


class BetweenCase(Case):
    def beyond(self, table, function, *arguments):
        error = self.raised(function, table, *arguments)
        self.assertIs(type(error), Beyond, (function, table))
        self.assertTrue(is_beyond_row(table, error.row), (table, error.row))
        self.assertTrue(all(abs(item) < 10 ** 1000 for item in error.row))


class JudgeTests(BetweenCase):
    def check(self, table):
        between = by_values(table)
        self.whether(between, is_between, table)
        told = self.told(judge_between, table)
        self.assertEqual(told[0], "placed" if between else "beyond", table)
        self.assertTrue(is_right(table, told), (table, told))
        self.whether(True, between_holds, table, told)
        if not between:
            self.assertTrue(all(abs(item) < 10 ** 1000 for item in told[1]))
        return told

    def test_examples(self):
        self.whether(True, is_between, THREE)
        self.whether(False, is_between, FOUR)
        self.assertEqual(judge_between(((0,),))[0], "placed")
        self.assertEqual(len(self.check(beside(THREE, *ONES))[1]), 4)

    def test_all_webs_of_few_places(self):
        for many in (1, 2, 3):
            for table in all_looped_webs(many):
                self.check(table)

    def test_some_webs(self):
        kinds = [self.check(table)[0] for table in WEBS]
        self.assertGreater(kinds.count("placed"), 60)
        self.assertGreater(kinds.count("beyond"), 25)

    def test_cut_out_of_greatest_tables(self):
        for table in SEATED:
            self.assertEqual(self.check(table)[0], "placed")

    def test_one_entry_changed(self):
        rnd = seeded("one entry changed")
        kinds = [self.check(changed(rnd, table))[0] for table in SEATED if len(table) > 1]
        self.assertTrue(min(kinds.count("placed"), kinds.count("beyond")) > 20)

    def test_grown_webs(self):
        # Each web comes by a place that the one before it lets; all are placed.
        rnd = seeded("grown between")
        for start in ONES * 3 + [PATH, THREE]:
            table = start
            while len(table) < 8:
                nexts = []
                for _ in range(300):
                    c = [0] * (len(table) + 1)
                    for at in rnd.sample(range(len(table)), rnd.randint(1, min(3, len(table)))):
                        c[at] = rnd.choice((1, -1))
                    c[-1] = rnd.choice((-1, 0, 0, 1))
                    larger = with_looped_place(table, tuple(c))
                    if all(sum(entry ** 2 for entry in row) <= 4 for row in larger) and by_values(larger):
                        nexts.append(larger)
                        if len(nexts) == 3:
                            break
                if not nexts:
                    break
                table = max(nexts, key=lambda one: sum(abs(entry) for row in one for entry in row))
                self.assertEqual(self.check(table)[0], "placed")

    def test_just_one_kind(self):
        rnd = seeded("just one kind")
        for table in WEBS[::2]:
            rows = [tuple(rnd.randint(-3, 3) for _ in table) for _ in range(8)] + [(0,) * len(table), (1,) * len(table), (1, -1) * (len(table) // 2)]
            if by_values(table):
                self.assertFalse(any(is_beyond_row(table, row) for row in rows))
                self.assertFalse(any(between_holds(table, ("beyond", row)) for row in rows))
            else:
                parts = helpers.parts_of(table)
                for name in rnd.sample(NAMES, 3) + [("T", 3), ("S", 16, 0)]:
                    seats = tuple((name, tuple(rnd.sample(range(6), min(6, len(part)))), (1,) * len(part)) for part in parts)
                    self.whether(False, between_holds, table, ("placed", seats))

    def test_turned(self):
        rnd = seeded("turned looped webs")
        for table in WEBS[::3]:
            turn = random_turning(rnd, len(table))
            turned = helpers.led(table, turn)
            self.assertEqual(self.check(turned)[0], judge_between(table)[0])
            told = judge_between(table)
            if told[0] == "beyond":
                self.whether(True, between_holds, turned, ("beyond", helpers.row_led(turn, told[1])))

    def test_few_ties(self):
        # [7.1]
        for table in WEBS + SEATED:
            if is_between(table):
                squares = [sum(entry ** 2 for entry in row) for row in table]
                self.assertLessEqual(max(squares), 4)
                twice = helpers.multiplied(table, table)
                if min(squares) == 4:
                    self.assertEqual(twice, [[4 * (i == j) for j in range(len(table))] for i in range(len(table))])

    def test_lots_of_webs_that_are_between(self):
        for table in SEATED[::5]:
            for at in range(len(table)):
                if len(table) > 1:
                    self.assertIs(is_between(helpers.within(table, [place for place in range(len(table)) if place != at])), True)

    def test_wrong_webs(self):
        for wrong in wrong_looped_webs():
            self.raises(BadWeb, wrong, is_between, wrong)
            self.raises(BadWeb, wrong, judge_between, wrong)
            self.raises(BadWeb, wrong, between_holds, wrong, ("placed", ()))
            self.raises(BadWeb, wrong, between_holds, wrong, None)


class HoldTests(BetweenCase):
    def check(self, table, thing, wanted=None):
        right = is_right(table, thing)
        if wanted is not None:
            self.assertIs(right, wanted, (table, thing))
        self.whether(right, between_holds, table, thing)

    def test_examples(self):
        self.check(FOUR, ("beyond", (1, 1, 1, 1)), True)
        self.check(FOUR, ("beyond", (1, 1, 1, 0)), False)
        self.check(FOUR, ("beyond", (0, 0, 0, 0)), False)
        self.check(FOUR, ("placed", ((("T", 3), (0, 2, 4, 1), (1, 1, 1, 1)),)), False)
        self.check(THREE, ("placed", ((("T", 3), (0, 2, 4), (1, 1, 1)),)), True)
        self.check(helpers.symmetric(4, lambda i, j: -FOUR[i][j]), ("beyond", (1, 1, 1, 1)), True)
        self.check(helpers.symmetric(4, lambda i, j: -FOUR[i][j]), ("beyond", (1, -1, 1, 1)), False)

    def test_seats(self):
        seats = {((0,),): (("T", 7), (5,), (-1,)), ((1,),): (("C", 3, 1, 1), (1,), (1,)), ((-1,),): (("S", 7, 1), (0,), (-1,)),
                 THREE: (("T", 3), (0, 2, 4), (1, 1, 1)), ((0, 1), (1, 0)): (("S", 16, 0), (0, 1), (1, 1))}
        for one, other in itertools.product(seats, repeat=2):
            table = beside(one, other)
            right = (seats[one], seats[other])
            self.check(table, ("placed", right), True)
            self.check(table, ("placed", right[::-1]), one == other)
            self.check(table, ("placed", right[:1]), False)
            self.check(table, ("placed", right + right[1:]), False)
            self.check(table, ("placed", right[0]), False)
            self.check(table, ("placed", list(right)), False)
            self.check(table, right, False)
            name, places, signs = seats[one]
            for wrong in ((name, places, (0,) * len(one)), (name, (0,) * (len(one) + 1), signs), (name, places[:1] * len(one), signs),
                          (("T", 40), places, signs), (name, signs), (name, signs, places), None, (), (("C", 2, 1, 1), places, signs)):
                self.check(table, ("placed", (wrong, seats[other])))

    def test_another_name_and_order(self):
        rnd = seeded("another name")
        for table, seat in seats_with_webs(8)[::4]:
            name, places, signs = seat
            self.check(table, ("placed", (seat,)), True)
            self.check(table, ("placed", (seat, seat)), False)
            self.check(table, ("placed", ()), False)
            for other in rnd.sample(NAMES, 4):
                self.check(table, ("placed", ((other, places, signs),)))
            self.check(table, ("placed", ((name, places[::-1], signs[::-1]),)))
            self.check(table, ("placed", ((name, places, signs[:-1] + (0,)),)), False)
            if len(table) > 1:
                self.check(table, ("placed", ((name, places[:1] + places[:-1], signs),)), False)

    def test_great_rows(self):
        great = 10 ** 29
        for table in WEBS:
            told = judge_between(table)
            if told[0] == "beyond":
                self.check(table, ("beyond", tuple(item * great for item in told[1])), True)
                self.check(table, ("beyond", tuple(item * -great for item in told[1])), True)
                self.check(table, ("beyond", tuple(item * great + 1 for item in told[1])))
        # Beside the rows that are weighed with just 2 times their squares there are such beyond, and such that are not.
        for table in (FOUR, full_web(4, -1), star_web(5), looped(THREE, (1, 1, 1)), looped(star_web(3), (-1, 0, 0, 0))):
            for edge in itertools.product((great - 1, great, great + 1), (1, 2, -1), (0, 1, great), (great, -great)):
                self.check(table, ("beyond", (edge + (0, 0))[:len(table)]))
        # A star of five weighs (x, y, y, y, y, y) with 10 x y, against 2 x x + 10 y y: beyond between two roots.
        upper = (5 * great + math.isqrt(5 * great * great)) // 2
        lower = (5 * great - math.isqrt(5 * great * great) + 1) // 2
        for x, wanted in ((upper, True), (upper + 1, False), (lower, True), (lower - 1, False), (2 * great, True), (4 * great, False)):
            for sign in (1, -1):
                self.check(star_web(5, sign), ("beyond", (x,) + (great,) * 5), wanted)
                self.check(star_web(5, sign), ("beyond", (-x,) + (great,) * 5), wanted)
        for less in (-1, 0, 1):
            self.check(star_web(4), ("beyond", (2 * great + less,) + (great,) * 4), False)

    def test_any_value(self):
        for table in (((0,),), ((1,),), THREE, FOUR, beside(((0, 1), (1, 0)), ((1,),))):
            told = judge_between(table)
            things = any_values() + bent(told) + [("placed",), ("beyond",), ("placed", ()), ("beyond", ()), ("placed", None), ("beyond", None),
                                                  told + (0,), told[::-1], ("low", told[1]), ("high", told[1]), ("beyond", [1] * len(table)),
                                                  ("beyond", (True,) * len(table)), ("Placed", told[1]), ("beyond", (1,) * (len(table) + 1))]
            for thing in things:
                self.check(table, thing)


class HolderTests(BetweenCase):
    def wanted(self, table):
        most = 2 * len(table) + 2
        near = [name for name in NAMES if name[0] == "S" or 2 * name[1] <= most]
        return tuple(sorted(name for name in near if is_held_by_hand(table, name)))

    def test_examples(self):
        self.same(holders(THREE), (("S", 7, 1), ("T", 3)))
        self.same(does_reach_on(THREE), False)
        self.same(does_reach_on(((0, 1), (1, 0))), True)
        self.same(holders(((1,),)), (("C", 2, 1, -1), ("C", 2, 1, 1), ("S", 7, -1), ("S", 7, 1), ("S", 8, 0), ("S", 8, 1)))
        self.same(holders(((0,),)), tuple(name for name in sorted(S_NAMES) if name != ("S", 8, 1)))

    def test_by_hand(self):
        tables = [table for many in (1, 2) for table in all_looped_webs(many)] + JOINED + SEATED[1::4]
        checked = 0
        for table in tables:
            if len(table) <= 6 and len(helpers.parts_of(table)) == 1 and by_values(table):
                told = self.told(holders, table)
                self.same(told, self.wanted(table), table)
                self.assertNotEqual(told, ())
                checked += 1
        self.assertGreater(checked, 60)

    def test_cut_out(self):
        for table, (name, _, _) in seats_with_webs(6):
            self.assertTrue(name in holders(table) or (name[0] != "S" and name[1] > len(table) + 1), (table, name))

    def test_turned_and_opposite(self):
        rnd = seeded("holders turned")
        for table in [table for table in SEATED if len(table) <= 6][::4]:
            self.same(holders(helpers.led(table, random_turning(rnd, len(table)))), holders(table))
            # [7.2] tells which tables are alike to their opposites.
            swapped = {("S", 7, 1): ("S", 7, -1), ("S", 7, -1): ("S", 7, 1)}
            names = []
            for name in holders(table):
                if name[0] == "C":
                    name = name[:2] + tuple(sorted((-name[2], -name[3]), reverse=True))
                names.append(swapped.get(name, name))
            self.same(holders(symmetric(len(table), lambda i, j: -table[i][j])), tuple(sorted(names)))

    def test_does_reach_on(self):
        seen = []
        for table in JOINED + SEATED[::3] + [table for many in (1, 2) for table in all_looped_webs(many)]:
            if len(table) <= 6 and len(helpers.parts_of(table)) == 1 and by_values(table):
                many = len(table)
                names = [("T", many + 2)] + [("C", many + 2, s, t) for s, t in ((1, 1), (1, -1), (-1, -1))]
                seen.append(any(is_held_by_hand(table, name) for name in names))
                self.whether(seen[-1], does_reach_on, table)
        self.assertTrue(min(seen.count(True), seen.count(False)) > 15)

    def test_cut_out_of_long_tables(self):
        # Where a column or an end is free the web goes on; a whole greatest table lets nothing that is tied with it.
        for table, (name, _, _) in seats_with_webs(8):
            if name[0] in "TC" and name[1] >= len(table) + 2:
                self.whether(True, does_reach_on, table)
        for name in (("S", 7, -1), ("S", 8, 0), ("S", 8, 1), ("C", 2, 1, 1), ("C", 4, -1, -1), ("C", 3, 1, -1), ("T", 3), ("T", 4)):
            self.whether(False, does_reach_on, greatest_by_hand(name))

    def test_known_ones(self):
        for many in range(1, 9):
            self.whether(True, does_reach_on, web(many, [(k, k + 1) for k in range(many - 1)]))
        for many in (3, 5, 6, 7, 8):
            self.whether(False, does_reach_on, ring_web(many))
        self.whether(True, does_reach_on, ring_web(4, -1))
        self.whether(True, does_reach_on, ((1, 1), (1, 1)))
        self.whether(True, does_reach_on, ring_web(4))
        self.whether(False, does_reach_on, helpers.within(greatest_by_hand(("S", 7, 1)), range(7)))

    def test_what_goes_on_is_let_to_grow(self):
        for table in [table for table in SEATED if len(table) <= 4]:
            if does_reach_on(table):
                self.assertTrue(any(any(c[:-1]) for c in places_between(table)))

    def test_errors(self):
        for wrong in wrong_looped_webs():
            self.raises(BadWeb, wrong, holders, wrong)
            self.raises(BadWeb, wrong, does_reach_on, wrong)
        for table in (zero_table(2), beside(FOUR, ((0,),)), beside(THREE, ((1,),)), beside(full_web(5), ((1,),)), beside(ONES[1], ONES[2]), zero_table(8)):
            for function in (holders, does_reach_on):
                error = self.raised(function, table)
                self.assertIs(type(error), NotJoined)
                self.assertEqual(vars(error), {})
        for table in (FOUR, full_web(6), full_web(4, -1), star_web(5), looped(THREE, (1, 1, 1)), looped(full_web(3, -1), (-1, -1, -1))):
            self.beyond(table, holders)
            self.beyond(table, does_reach_on)


class PlaceTests(BetweenCase):
    def check(self, table):
        many = len(table)
        wanted = []
        for c in itertools.product((-1, 0, 1), repeat=many + 1):
            larger = symmetric(many + 1, lambda i, j: c[j] if i == many else table[i][j])
            if by_values(larger):
                wanted.append(c)
        self.same(self.told(places_between, table), tuple(wanted), table)

    def test_examples(self):
        self.same(places_between(((1,),)), tuple(itertools.product((-1, 0, 1), repeat=2)))
        self.same(places_between(((0,),)), tuple(itertools.product((-1, 0, 1), repeat=2)))

    def test_few_places(self):
        for many in (1, 2):
            for table in all_looped_webs(many):
                self.check(table)
        rnd = seeded("places between")
        for table in rnd.sample([table for table in all_looped_webs(3) if by_values(table)], 40) + [THREE, PATH, zero_table(3)]:
            self.check(table)

    def test_more_places(self):
        fours = [table for table in WEBS + SEATED if len(table) == 4 and by_values(table)]
        for table in fours[:6] + [zero_table(4), ring_web(4), ring_web(4, -1), looped(zero_table(4), (1, 1, -1, 0)), beside(THREE, ((1,),))]:
            self.check(table)
        fives = [table for table in WEBS + SEATED if len(table) == 5 and by_values(table)]
        for table in fives[:3] + [star_web(4), beside(THREE, ((0, 1), (1, 0)))]:
            self.check(table)

    def test_full_places_let_nothing(self):
        # A place whose squares add up to 4 can have no further tie.
        for table in ([star_web(4)] + [table for table in SEATED if len(table) == 5]):
            full = [at for at, row in enumerate(table) if sum(entry ** 2 for entry in row) == 4]
            for c in places_between(table):
                self.assertTrue(all(c[at] == 0 for at in full))

    def test_errors(self):
        for wrong in wrong_looped_webs():
            self.raises(BadWeb, wrong, places_between, wrong)
            self.raises(BadWeb, wrong, with_looped_place, wrong, (0,))
            self.raises(BadWeb, wrong, with_looped_place, wrong, None)
        for table in (FOUR, full_web(5, -1), beside(FOUR, ((0,),)), looped(THREE, (1, 1, 1)), looped(((0, 1), (1, 0)), (1, 1))):
            if not by_values(table):
                self.beyond(table, places_between)

    def test_with_looped_place(self):
        self.same(with_looped_place(((0,),), (1, -1)), ((0, 1), (1, -1)))
        rnd = seeded("with looped place")
        for many in range(1, 12):
            for table in (zero_table(many), random_looped(rnd, many, 2), random_looped(rnd, many, 1)):
                for c in ((0,) * (many + 1), (1,) * (many + 1), (-1,) * (many + 1), tuple(rnd.choice((-1, 0, 1)) for _ in range(many + 1))):
                    self.same(self.told(with_looped_place, table, c), symmetric(many + 1, lambda i, j: c[j] if i == many else table[i][j]))

    def test_twelve_places(self):
        for table in (zero_table(12), full_web(12), looped(full_web(12, -1), (1,) * 12)):
            self.raises(BadWeb, table, with_looped_place, table, (0,) * 13)
            self.raises(BadWeb, table, with_looped_place, table, (1,) * 13)
            for wrong in ((0,) * 12, (0,) * 14, None, (2,) * 13, [0] * 13, (False,) * 13):
                self.raises(BadRow, wrong, with_looped_place, table, wrong)

    def test_wrong_entries(self):
        for table in ONES + [PATH, FOUR, zero_table(2)]:
            many = len(table) + 1
            things = any_values() + bent((1, 0, -1, 1, 0)[:many]) + bent((1,) * many)
            things += [(2,) * many, (0,) * (many - 1) + (2,), (-2,) + (0,) * (many - 1), (0,) * (many - 1), (0,) * (many + 1), (True,) * many,
                       (False,) * many, [0] * many, (0,) * (many - 1) + (True,), (None,) + (0,) * (many - 1), "0" * many, (10 ** 99,) * many]
            for thing in things:
                if not (helpers.are_ints(thing, many) and all(item in (-1, 0, 1) for item in thing)):
                    self.raises(BadRow, thing, with_looped_place, table, thing)


if __name__ == "__main__":
    unittest.main()
