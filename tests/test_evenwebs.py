"""[9.1] to [9.6] and evenwebs.py."""

import itertools
import unittest
from fractions import Fraction

from tests import helpers
from tests.helpers import Case, any_values, beside, bent, full_web, ring_web, seeded, star_web, symmetric, web, zero_table
from tests.linework import random_web, renamed, shuffled
from withintwo.errors import BadKind, BadPlace, BadWeb, NotEven
from withintwo.evenwebs import (around, even_holds, even_name, even_values, even_web, is_even, is_even_name, judge_even, judge_name,
                                name_holds, opposite_web)
from withintwo.values import whole_values

LOTS = [("lots", a, b) for a in range(1, 17) for b in range(1, 17) if a * b <= 16]
NAMES = LOTS + [("twos", a) for a in range(2, 9)] + [("ring",), ("triangle", 5), ("triangle", 6), ("square", 3), ("square", 4), ("petersen",),
                                                       ("shrikhande",), ("clebsch",)]
WAY = ((0, 1, 0), (1, 0, 1), (0, 1, 0))


def from_rule(many, told):
    return symmetric(many, lambda i, j: int(i != j and bool(told(j, i))))


def by_hand(name):
    """The words of [9.4]."""
    word = name[0]
    if word == "lots":
        return from_rule(name[1] * name[2], lambda i, j: divmod(i, name[2])[0] == divmod(j, name[2])[0])
    if word == "twos":
        return from_rule(2 * name[1], lambda i, j: divmod(i, 2)[0] != divmod(j, 2)[0])
    if word == "ring":
        return web(5, [(0, 1), (1, 2), (2, 3), (3, 4), (4, 0)])
    if word in ("triangle", "petersen"):
        pairs = list(itertools.combinations(range(name[1] if word == "triangle" else 5), 2))
        return from_rule(len(pairs), lambda i, j: bool({*pairs[i]} & {*pairs[j]}) == (word == "triangle"))
    if word == "square":
        return from_rule(name[1] ** 2, lambda i, j: any(x == y for x, y in zip(divmod(i, name[1]), divmod(j, name[1]))))
    if word == "shrikhande":
        steps = {(0, 1), (0, 3), (1, 0), (3, 0), (1, 1), (3, 3)}
        return from_rule(16, lambda i, j: tuple((x - y) % 4 for x, y in zip(divmod(i, 4), divmod(j, 4))) in steps)
    return from_rule(16, lambda i, j: sum(x != y for x, y in zip(f"{i:04b}", f"{j:04b}")) in (1, 2))


WEBS = {name: by_hand(name) for name in NAMES}
# The web of 13 places whose differences are squares by 13: even, with values that are not whole.
THIRTEEN = from_rule(13, lambda i, j: (j - i) % 13 in (1, 3, 4, 9, 10, 12))


def is_wide_web(thing):
    if type(thing) is not tuple or not 1 <= len(thing) <= 16 or not all(helpers.are_ints(row, len(thing)) for row in thing):
        return False
    places = range(len(thing))
    return all(thing[i][j] == thing[j][i] and thing[i][j] in ((0, 1) if i != j else (0,)) for i in places for j in places)


def common(table, i, j):
    return sum(1 for k in range(len(table)) if table[i][k] and table[j][k])


def counts_of(table):
    """The certificate "counts", by the words of [9.1]; None if the web is not even."""
    many = len(table)
    pairs = list(itertools.combinations(range(many), 2))
    found = [{sum(row) for row in table}]
    found += [{common(table, i, j) for i, j in pairs if table[i][j] == entry} for entry in (1, 0)]
    if any(len(one) > 1 for one in found):
        return None
    return ("counts",) + tuple(min(one, default=None) for one in found)


def against_right(table, thing):
    """The certificates "places" and "pairs" of [9.1]."""
    if type(thing) is not tuple or not thing or not isinstance(thing[0], str) or not helpers.are_ints(thing[1:]):
        return False
    if not all(0 <= place < len(table) for place in thing[1:]) or any(x >= y for x, y in zip(thing[1::2], thing[2::2])):
        return False
    if thing[0] == "places" and len(thing) == 3:
        return sum(table[thing[1]]) != sum(table[thing[2]])
    if thing[0] != "pairs" or len(thing) != 5:
        return False
    i, j, g, h = thing[1:]
    return table[i][j] == table[g][h] and common(table, i, j) != common(table, g, h)


def even_right(table, thing):
    if type(thing) is tuple and len(thing) == 4 and thing[0] == "counts":
        return helpers.same(thing, counts_of(table))
    return against_right(table, thing)


def name_right(table, thing):
    """The certificates of [9.5]."""
    if type(thing) is tuple and len(thing) == 3 and isinstance(thing[0], str) and thing[0] == "named":
        if not is_name(thing[1]) or not helpers.are_ints(thing[2], len(table)) or sorted(thing[2]) != list(range(len(table))):
            return False
        named = WEBS[thing[1]]
        return len(named) == len(table) and all(table[thing[2][i]][thing[2][j]] == named[i][j] for i in range(len(table)) for j in range(len(table)))
    if type(thing) is tuple and len(thing) == 2 and isinstance(thing[0], str) and thing[0] == "low":
        return helpers.is_low_row(table, thing[1])
    return against_right(table, thing)


def is_name(thing):
    return type(thing) is tuple and all(type(item) in (str, int) for item in thing) and thing in NAMES


def is_below(table):
    return helpers.inertia(table, Fraction(-2))[0] > 0


def opposite(table):
    return symmetric(len(table), lambda i, j: int(i != j and not table[i][j]))


def with_tie_changed(rnd, table):
    i, j = sorted(rnd.sample(range(len(table)), 2))
    return symmetric(len(table), lambda k, m: 1 - table[k][m] if (m, k) == (i, j) else table[k][m])


def some_webs():
    rnd = seeded("even webs")
    found = [((0,),), WAY, star_web(5), star_web(15), THIRTEEN, opposite(THIRTEEN), ring_web(6), ring_web(12), beside(ring_web(5), ring_web(5)),
             beside(full_web(4), full_web(5)), from_rule(6, lambda i, j: i // 3 != j // 3), from_rule(16, lambda i, j: i // 4 != j // 4),
             from_rule(16, lambda i, j: i // 8 != j // 8), from_rule(8, lambda i, j: sum(x != y for x, y in zip(f"{i:03b}", f"{j:03b}")) == 1),
             from_rule(9, lambda i, j: (j - i) % 9 in (1, 8)), zero_table(16), full_web(16)]
    for name in NAMES:
        found += [WEBS[name], shuffled(rnd, WEBS[name]), opposite(WEBS[name])]
        if len(WEBS[name]) > 2:
            found.append(with_tie_changed(rnd, WEBS[name]))
    for many in range(2, 17):
        found += [random_web(rnd, many, part) for part in (20, 50, 80)]
    return found


SOME = some_webs()


def wrong_webs():
    things = any_values() + bent(WAY) + [((0, -1), (-1, 0)), ((1,),), ((0, 1), (1, 1)), ((0, 2), (2, 0)), zero_table(17), full_web(17), ((False,),),
                                         ((0, True), (True, 0)), [[0]], ((0, 1), (0, 0)), ((0, 1), (1, 0), (0, 0))]
    return [thing for thing in things if not is_wide_web(thing)]


class NameTests(Case):
    def wrong_names(self):
        things = any_values() + bent(("lots", 3, 2)) + bent(("twos", 4)) + bent(("ring",)) + bent(("square", 3))
        things += [("lots", a, b) for a in range(-5, 19) for b in range(-5, 19)]
        things += [(word, a) for word in ("twos", "triangle", "square", "ring", "petersen", "shrikhande", "clebsch", "lots") for a in range(-1, 20)]
        things += [(word,) for word in ("twos", "triangle", "square", "lots", "", "Ring", "ring ", "schlaefli", "chang")]
        things += [("lots", True, 3), ("lots", 3, True), ("lots", 16, True), ("twos", True), ("twos", "2"), ("twos", (2,)), ["ring"], "ring", ("ring", ()),
                   (("ring",),), ("lots", (3, 2)), ("lots", 3, 2, 1), ("lots", None, 1), (3, 2), ("square", 3.0), ("triangle", None), {"twos": 2},
                   (["ring"],), (None,), ("lots", 10 ** 99, 1), ("lots", -4, -4), ("twos", 2, 2)]
        return [thing for thing in things if not is_name(thing)]

    def test_is_even_name(self):
        self.assertEqual(len({*NAMES}), len(LOTS) + 15)
        for name in NAMES:
            self.whether(True, is_even_name, name)
        for thing in self.wrong_names():
            self.whether(False, is_even_name, thing)
            self.raises(BadKind, thing, even_web, thing)

    def test_even_web(self):
        for name in NAMES:
            self.same(self.told(even_web, name), WEBS[name])
            self.assertIsNotNone(counts_of(WEBS[name]))
            self.assertFalse(is_below(WEBS[name]))

    def test_counts(self):
        wanted = {("petersen",): (3, 0, 1), ("clebsch",): (10, 6, 6), ("ring",): (2, 0, 1), ("triangle", 5): (6, 3, 4), ("triangle", 6): (8, 4, 4),
                  ("square", 3): (4, 1, 2), ("square", 4): (6, 2, 2), ("shrikhande",): (6, 2, 2), ("twos", 8): (14, 12, 14), ("twos", 2): (2, 0, 2),
                  ("lots", 1, 1): (0, None, None), ("lots", 2, 1): (0, None, 0), ("lots", 1, 2): (1, 0, None), ("lots", 16, 1): (0, None, 0),
                  ("lots", 1, 16): (15, 14, None), ("lots", 2, 8): (7, 6, 0), ("lots", 8, 2): (1, 0, 0)}
        for name, counts in wanted.items():
            self.same(judge_even(even_web(name)), ("counts",) + counts)


class EvenTests(Case):
    def check(self, table):
        counts = counts_of(table)
        told = self.told(judge_even, table)
        self.assertTrue(even_right(table, told), (table, told))
        self.assertEqual(told[0] == "counts", counts is not None)
        self.whether(counts is not None, is_even, table)
        self.whether(True, even_holds, table, told)
        return told

    def test_examples(self):
        self.same(judge_even(WEBS["petersen",]), ("counts", 3, 0, 1))
        self.same(judge_even(((0, 0), (0, 0))), ("counts", 0, None, 0))
        self.same(judge_even(((0,),)), ("counts", 0, None, None))
        self.whether(True, even_holds, WAY, ("places", 0, 1))
        self.same(judge_even(opposite_web(WEBS["clebsch",])), ("counts", 5, 0, 2))

    def test_some_webs(self):
        kinds = [self.check(table)[0] for table in SOME]
        self.assertGreater(kinds.count("counts"), 100)
        self.assertGreater(kinds.count("places"), 40)
        self.assertGreater(kinds.count("pairs"), 3)

    def test_all_webs_of_few_places(self):
        for many in range(1, 6):
            pairs = list(itertools.combinations(range(many), 2))
            for ties in itertools.chain(*[itertools.combinations(pairs, size) for size in range(len(pairs) + 1)]):
                self.check(web(many, ties))

    def test_never_both(self):
        for table in SOME[::5]:
            many = len(table)
            places = [("places",) + pair for pair in itertools.combinations(range(many), 2)]
            pairs = [("pairs",) + one + other for one in itertools.combinations(range(min(many, 6)), 2) for other in itertools.combinations(range(min(many, 6)), 2)]
            for thing in places + pairs:
                self.assertIs(even_holds(table, thing), even_right(table, thing))
            if counts_of(table) is not None:
                self.assertFalse(any(even_holds(table, thing) for thing in places + pairs))
            else:
                for counts in itertools.product((0, 1, 2, sum(table[0]), None), repeat=3):
                    self.assertFalse(even_holds(table, ("counts",) + counts))

    def test_counts(self):
        for table in [WEBS[name] for name in NAMES[::5]] + [((0,),), zero_table(2), full_web(2), WEBS["ring",], THIRTEEN]:
            right = counts_of(table)
            numbers = [0, 1, 2, 3, 6, None, True, False, "0", (0,), -1]
            for at in (1, 2, 3):
                for number in numbers + [right[at], [right[at]]]:
                    thing = right[:at] + (number,) + right[at + 1:]
                    self.whether(even_right(table, thing), even_holds, table, thing)
            self.whether(False, even_holds, table, right[:3])
            self.whether(False, even_holds, table, right + (None,))
            self.whether(False, even_holds, table, list(right))

    def test_any_value(self):
        for table in (((0,),), zero_table(2), WAY, WEBS["petersen",], ring_web(6), star_web(3)):
            told = judge_even(table)
            things = any_values() + bent(told) + bent(("places", 0, 1)) + bent(("pairs", 0, 1, 1, 2)) + [("counts",), ("places",), ("pairs",), ("places", 0),
                                                                                                         ("counts", None, None, None), ("places", None, None)]
            for thing in things:
                self.assertIs(even_holds(table, thing), even_right(table, thing), (table, thing))

    def test_wrong_webs(self):
        for wrong in wrong_webs():
            for function in (is_even, judge_even, even_values, opposite_web, judge_name, even_name):
                self.raises(BadWeb, wrong, function, wrong)
            for thing in (None, 0, ("counts", 0, None, None)):
                self.raises(BadWeb, wrong, even_holds, wrong, thing)
                self.raises(BadWeb, wrong, name_holds, wrong, thing)
                self.raises(BadWeb, wrong, around, wrong, thing)


class ValueTests(Case):
    def wanted(self, table):
        """The values, by counting at each integer."""
        found = []
        for value in range(-len(table), len(table) + 1):
            _, at, _ = helpers.inertia(table, Fraction(value))
            if at:
                found.append((value, at))
        return tuple(found) if sum(often for _, often in found) == len(table) else None

    def test_examples(self):
        self.same(even_values(WEBS["petersen",]), ((-2, 4), (1, 5), (3, 1)))
        self.same(even_values(WEBS["ring",]), None)
        self.same(even_values(WEBS["lots", 3, 2]), ((-1, 3), (1, 3)))
        self.same(even_values(((0,),)), ((0, 1),))
        self.same(even_values(full_web(2)), ((-1, 1), (1, 1)))
        self.same(even_values(THIRTEEN), None)
        self.same(even_values(zero_table(16)), ((0, 16),))
        self.same(even_values(WEBS["twos", 8]), ((-2, 7), (0, 8), (14, 1)))

    def test_some_webs(self):
        none = 0
        for at, table in enumerate(SOME):
            if counts_of(table) is None:
                error = self.raised(even_values, table)
                self.assertIs(type(error), NotEven)
                self.assertTrue(against_right(table, error.certificate), table)
                continue
            told = self.told(even_values, table)
            none += told is None
            if len(table) <= 12:
                whole = whole_values(table)
                self.same(told, whole if sum(often for _, often in whole) == len(table) else None, table)
            if len(table) <= 8 or at % 3 == 0:
                self.same(told, self.wanted(table), table)
            # [9.2]
            if told is not None:
                self.assertEqual(sum(often for _, often in told), len(table))
                self.assertEqual(sum(value * often for value, often in told), 0)
                self.assertEqual(told[-1][0], sum(table[0]))
            _, k, l, m = counts_of(table)
            if None not in (l, m):
                self.assertEqual((len(table) - k - 1) * m, k * (k - l - 1))
        self.assertGreater(none, 3)

    def test_like_counts(self):
        # [9.6]
        square, other = WEBS["square", 4], WEBS["shrikhande",]
        self.same(judge_even(square), judge_even(other))
        self.same(even_values(square), even_values(other))
        self.same(even_values(square), ((-2, 9), (2, 6), (6, 1)))
        for place in range(16):
            self.same(even_name(around(square, place)), ("lots", 2, 3))
            told = around(other, place)
            self.assertEqual([sum(row) for row in told], [2] * 6)
            self.assertEqual(len(helpers.parts_of(told)), 1)


class OppositeTests(Case):
    def test_some_webs(self):
        for table in SOME:
            told = self.told(opposite_web, table)
            self.same(told, opposite(table))
            self.same(opposite_web(told), table)
            # [9.3]
            counts = counts_of(table)
            self.whether(counts is not None, is_even, told)
            if counts is not None:
                many = len(table)
                k, l, m = counts[1:]
                wanted = ("counts", many - 1 - k, None if m is None else many - 2 - 2 * k + m, None if l is None else many - 2 * k + l)
                self.same(judge_even(told), wanted)


class JudgeNameTests(Case):
    def check(self, table):
        told = self.told(judge_name, table)
        self.assertTrue(name_right(table, told), (table, told))
        named = counts_of(table) is not None and not is_below(table)
        self.assertEqual(told[0] == "named", named)
        self.whether(True, name_holds, table, told)
        self.same(self.told(even_name, table), told[1] if named else None)
        if told[0] == "low":
            self.assertTrue(all(abs(item) < 10 ** 1000 for item in told[1]))
        return told

    def test_some_webs(self):
        kinds = [self.check(table)[0] for table in SOME]
        self.assertTrue(min(kinds.count("named"), kinds.count("low"), kinds.count("places")) > 20)

    def test_just_one_name(self):
        rnd = seeded("just one name")
        for name in NAMES:
            for _ in range(2):
                self.same(self.check(shuffled(rnd, WEBS[name]))[1], name)

    def test_all_webs_of_few_places(self):
        for many in range(1, 6):
            pairs = list(itertools.combinations(range(many), 2))
            for ties in itertools.chain(*[itertools.combinations(pairs, size) for size in range(len(pairs) + 1)]):
                self.check(web(many, ties))

    def test_even_webs_that_are_below(self):
        for table in (from_rule(6, lambda i, j: i // 3 != j // 3), from_rule(16, lambda i, j: i // 8 != j // 8), THIRTEEN, opposite(WEBS["square", 4]),
                      opposite(WEBS["shrikhande",]), opposite(WEBS["clebsch",]), opposite(WEBS["triangle", 6]), opposite(WEBS["lots", 3, 5])):
            self.assertEqual(self.check(table)[0], "low")
            self.same(even_name(table), None)

    def test_holds(self):
        rnd = seeded("names hold")
        self.whether(True, name_holds, WEBS["twos", 2], ("named", ("twos", 2), (1, 0, 2, 3)))
        for name in NAMES[::3]:
            table = shuffled(rnd, WEBS[name])
            many = len(table)
            told = judge_name(table)
            orders = [told[2], told[2][::-1], told[2][1:] + told[2][:1], tuple(range(many)), (0,) * many, told[2][:-1], told[2] + (0,), list(told[2]),
                      tuple(map(bool, told[2])), tuple(rnd.sample(range(many), many)), (10 ** 99,) * many, None, ()]
            for order in orders:
                for other in (name, ("square", 4), ("shrikhande",), ("lots", many, 1), rnd.choice(NAMES), None, list(name), name + (1,), ("lots", 4, 5)):
                    thing = ("named", other, order)
                    self.assertIs(name_holds(table, thing), name_right(table, thing), (table, thing))
            self.whether(False, name_holds, table, counts_of(table))
            self.whether(False, name_holds, table, ("low", (1,) * many))
            self.whether(False, name_holds, table, ("low", (1, -1) * (many // 2) + (0,) * (many % 2)))

    def test_all_orders(self):
        for name in (("ring",), ("lots", 2, 2), ("twos", 2), ("lots", 1, 4), ("lots", 4, 1), ("lots", 5, 1)):
            table = renamed(WEBS[name], tuple(range(len(WEBS[name])))[::-1])
            for order in itertools.permutations(range(len(table))):
                thing = ("named", name, order)
                self.assertIs(name_holds(table, thing), name_right(table, thing))

    def test_low_rows(self):
        table = from_rule(16, lambda i, j: i // 8 != j // 8)
        self.whether(True, name_holds, table, ("low", (1,) * 8 + (-1,) * 8))
        self.whether(True, name_holds, table, ("low", (10 ** 30,) * 8 + (-10 ** 30,) * 8))
        self.whether(True, name_holds, table, ("low", (1, 0) * 4 + (-1, 0) * 4))
        self.whether(False, name_holds, table, ("low", (1, 1, 0, 0, 0, 0, 0, 0) + (-1, -1, 0, 0, 0, 0, 0, 0)))
        for wrong in ((1,) * 16, (0,) * 16, (1,) * 8 + (-1,) * 7, [1] * 8 + [-1] * 8, (True,) * 8 + (-1,) * 8, None):
            self.whether(False, name_holds, table, ("low", wrong))

    def test_any_value(self):
        for table in (((0,),), WAY, star_web(5), WEBS["ring",], from_rule(6, lambda i, j: i // 3 != j // 3)):
            things = any_values() + bent(judge_name(table)) + bent(("places", 0, 1)) + bent(("pairs", 0, 1, 0, 2)) + [
                judge_even(table), ("named",), ("named", ("ring",)), ("low",), ("named", None, None), ("low", None), ("counts", 2, 0, 1)]
            for thing in things:
                self.assertIs(name_holds(table, thing), name_right(table, thing), (table, thing))


class AroundTests(Case):
    def test_examples(self):
        self.same(around(WEBS["square", 3], 0), ((0, 1, 0, 0), (1, 0, 0, 0), (0, 0, 0, 1), (0, 0, 1, 0)))
        self.same(around(((0,),), 0), ())

    def test_some_webs(self):
        for table in SOME:
            for place in {0, len(table) // 2, len(table) - 1}:
                near = [other for other in range(len(table)) if table[place][other]]
                self.same(self.told(around, table, place), helpers.within(table, near))

    def test_wrong_places(self):
        for table in (((0,),), WAY, full_web(16)):
            for thing in any_values() + bent(0) + [len(table), -1, True, False, None, "0", (0,), 16, 10 ** 99]:
                if not (type(thing) is int and 0 <= thing < len(table)):
                    self.raises(BadPlace, thing, around, table, thing)


if __name__ == "__main__":
    unittest.main()
