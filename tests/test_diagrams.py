"""[6.1] to [6.3] and diagrams.py."""

import itertools
import math
import unittest
from fractions import Fraction

from tests import helpers
from tests.helpers import Case, any_values, beside, bent, full_web, ring_web, seeded, star_web, web, zero_table
from tests.linework import random_web, renamed, shuffled
from tests.test_bars import all_webs, wrong_for_webs
from withintwo.diagrams import cycle_number, diagram, is_diagram_name, part_names, parts_hold, ringed_row
from withintwo.errors import BadKind, BadWeb, TooHigh

BOUNDS = {"A": (1, 12), "D": (4, 12), "E": (6, 8), "A+": (2, 11), "D+": (4, 11), "E+": (6, 8)}
NAMES = [(word, m) for word, (least, most) in BOUNDS.items() for m in range(least, most + 1)]
RINGED = [name for name in NAMES if "+" in name[0]]
PLAIN = [name for name in NAMES if "+" not in name[0]]
TWO_ENDS = {"E+": {6: (1, 2, 3, 2, 1, 2, 1), 7: (1, 2, 3, 4, 3, 2, 1, 2), 8: (2, 4, 6, 5, 4, 3, 2, 1, 3)}}


def wrong_names():
    things = any_values() + bent(("D+", 5)) + bent(("A", 3)) + bent(("E", 7))
    things += [(word, m) for word in ("A", "D", "E", "A+", "D+", "E+", "F", "B", "G+", "a", "+", "", "A++", "+A", "E ") for m in range(-1, 14)]
    things += [("A", True), ("A+", "2"), (1, "A"), ["A", 1], ("A", 1, 1), ("A",), "A1", ("A", (1,)), (("A", 1),), ("A", None), {"A": 1}]
    return [thing for thing in things if thing not in NAMES or any(item is True for item in thing)]


def diagram_by_hand(name):
    """The words of [6.1]."""
    word, m = name
    many = m + 1 if "+" in word else m
    way = {"A": m, "D": m - 1, "E": m - 1, "A+": m + 1, "D+": m - 1, "E+": {6: 5, 7: 7, 8: 8}.get(m)}[word]
    ties = [(k, k + 1) for k in range(way - 1)]
    ties += {"A": [], "D": [(m - 1, m - 3)], "E": [(m - 1, 2)], "A+": [(0, m)], "D+": [(m - 1, 1), (m, m - 3)],
             "E+": {6: [(5, 2), (6, 5)], 7: [(7, 3)], 8: [(8, 2)]}.get(m)}[word]
    return web(many, ties)


def never_high(table):
    return helpers.inertia(table, Fraction(2))[2] == 0


def is_high_row(table, thing):
    """Whether any value is a row as in [6.4] against never above 2."""
    return helpers.is_row(table, thing) and min(thing) >= 0 and helpers.weight(table, thing) > 2 * helpers.square(thing)


def too_high(case, table, function, *arguments):
    """The call raises TooHigh with a row of a certificate "high"."""
    error = case.raised(function, table, *arguments)
    case.assertIs(type(error), TooHigh)
    case.assertTrue(is_high_row(table, error.row), (table, error.row))
    case.assertTrue(all(item < 10 ** 1000 for item in error.row))


def parts_right(table, thing):
    """The words of part_names."""
    parts = helpers.parts_of(table)
    if type(thing) is not tuple or len(thing) != len(parts):
        return False
    for part, item in zip(parts, thing):
        if type(item) is not tuple or len(item) != 2 or item[0] not in NAMES or wrong_part(table, part, *item):
            return False
    return True


def wrong_part(table, part, name, places):
    if not helpers.is_int(name[1]) or not helpers.are_ints(places) or tuple(sorted(places)) != part:
        return True
    return renamed_within(table, places) != diagram_by_hand(name)


def renamed_within(table, places):
    return tuple(tuple(table[i][j] for j in places) for i in places)


def webs_never_high():
    """Webs of parts that are diagrams, with their places among one another."""
    rnd = seeded("webs never high")
    found = [diagram_by_hand(name) for name in NAMES] + [zero_table(12), zero_table(1), beside(*[full_web(3)] * 4)]
    for name in NAMES:
        found.append(shuffled(rnd, diagram_by_hand(name)))
    for _ in range(60):
        tables = [diagram_by_hand(name) for name in rnd.sample(NAMES, 4)]
        while sum(map(len, tables)) > 12:
            tables.pop()
        if tables:
            found.append(shuffled(rnd, beside(*tables)))
    return found


def high_webs():
    """Webs above 2."""
    rnd = seeded("high webs")
    found = [full_web(4), star_web(5), star_web(11), web(6, [(0, 1), (1, 2), (2, 0), (2, 3)]), full_web(12),
             web(10, [(k, k + 1) for k in range(8)] + [(2, 9)]), beside(full_web(4), ((0,),)), beside(((0,),), star_web(5))]
    for name in RINGED:
        table = diagram_by_hand(name)
        if len(table) < 12:
            # A ringed diagram with a place more that is tied to it is above 2.
            place = rnd.randrange(len(table))
            found.append(shuffled(rnd, web(len(table) + 1, [pair for pair in itertools.combinations(range(len(table)), 2)
                                                            if table[pair[0]][pair[1]]] + [(place, len(table))])))
        if name != ("A+", 2):
            found.append(shuffled(rnd, with_tie(rnd, table)))
    return found


def with_tie(rnd, table):
    """The web with one more tie."""
    rows = [list(row) for row in table]
    i, j = rnd.choice([(i, j) for i in range(len(table)) for j in range(i) if table[i][j] == 0])
    rows[i][j] = rows[j][i] = 1
    return tuple(tuple(row) for row in rows)


class NameTests(Case):
    def test_is_diagram_name(self):
        for name in NAMES:
            self.whether(True, is_diagram_name, name)
        for thing in wrong_names():
            self.whether(False, is_diagram_name, thing)

    def test_diagrams(self):
        self.same(diagram(("D", 4)), ((0, 1, 0, 0), (1, 0, 1, 1), (0, 1, 0, 0), (0, 1, 0, 0)))
        self.same(diagram(("A", 1)), ((0,),))
        self.same(diagram(("A+", 2)), full_web(3))
        self.same(diagram(("A+", 11)), ring_web(12))
        for name in NAMES:
            self.same(self.told(diagram, name), diagram_by_hand(name))
        star = diagram(("D+", 4))
        self.assertEqual(sorted(map(sum, star)), [1, 1, 1, 1, 4])

    def test_values_of_diagrams(self):
        for name in NAMES:
            counts = helpers.inertia(diagram(name), Fraction(2))
            self.assertEqual(counts[1:], (1, 0) if name in RINGED else (0, 0))

    def test_ringed_rows(self):
        self.same(ringed_row(("D+", 4)), (1, 2, 1, 1, 1))
        for name in RINGED:
            told = self.told(ringed_row, name)
            table = diagram_by_hand(name)
            self.assertTrue(helpers.is_row(table, told) and min(told) > 0 and math.gcd(*told) == 1)
            self.same(helpers.image(table, told), tuple(2 * item for item in told))
        for m in (6, 7, 8):
            self.same(ringed_row(("E+", m)), TWO_ENDS["E+"][m])

    def test_cycle_numbers(self):
        self.same(cycle_number(("E", 7)), 18)
        for word, m in PLAIN:
            wanted = {"A": m + 1, "D": 2 * m - 2, "E": {6: 12, 7: 18, 8: 30}.get(m)}[word]
            self.same(self.told(cycle_number, (word, m)), wanted)
            # The greatest value of the diagram is 2 cos (180 degrees / h).
            value = 2 * math.cos(math.pi / wanted)
            near = Fraction(round(value * 10 ** 9), 10 ** 9)
            table = diagram_by_hand((word, m))
            self.assertEqual(helpers.inertia(table, near + Fraction(1, 10 ** 8))[2], 0)
            self.assertEqual(helpers.inertia(table, near - Fraction(1, 10 ** 8))[2], 1)

    def test_wrong_names(self):
        for thing in wrong_names():
            for function in (diagram, ringed_row, cycle_number):
                self.raises(BadKind, thing, function, thing)
        for name in PLAIN:
            self.raises(BadKind, name, ringed_row, name)
        for name in RINGED:
            self.raises(BadKind, name, cycle_number, name)


class PartTests(Case):
    def named(self, table):
        told = self.told(part_names, table)
        self.assertTrue(parts_right(table, told), (table, told))
        self.whether(True, parts_hold, table, told)
        return [name for name, _ in told]

    def test_examples(self):
        self.same(part_names(zero_table(2)), ((("A", 1), (0,)), (("A", 1), (1,))))
        self.whether(True, parts_hold, ((0, 1, 1), (1, 0, 0), (1, 0, 0)), ((("A", 3), (2, 0, 1)),))
        self.whether(False, parts_hold, ((0, 1), (1, 0)), ((("A", 2), (0, 0)),))

    def test_diagrams(self):
        rnd = seeded("named diagrams")
        for name in NAMES:
            self.assertEqual(self.named(diagram_by_hand(name)), [name])
            self.assertEqual(self.named(shuffled(rnd, diagram_by_hand(name))), [name])

    def test_several_parts(self):
        for table in webs_never_high():
            self.assertTrue(never_high(table))
            self.assertEqual(len(self.named(table)), len(helpers.parts_of(table)))
        table = beside(diagram(("D", 4)), diagram(("A+", 2)), diagram(("A", 2)), diagram(("A", 1)))
        self.assertEqual(self.named(table), [("D", 4), ("A+", 2), ("A", 2), ("A", 1)])

    def test_few_places(self):
        for many in (1, 2, 3, 4, 5):
            for table in all_webs(many):
                if never_high(table):
                    self.named(table)
                else:
                    too_high(self, table, part_names)

    def test_high_webs(self):
        rnd = seeded("high or not")
        for table in high_webs():
            self.assertFalse(never_high(table))
            too_high(self, table, part_names)
        for table in [random_web(rnd, many, part) for many in (6, 8, 10, 12) for part in (5, 10, 15, 20, 30) for _ in range(4)]:
            if never_high(table):
                self.named(table)
            else:
                too_high(self, table, part_names)

    def test_places_in_any_right_order(self):
        for name in NAMES:
            table = diagram_by_hand(name)
            if len(table) <= 6:
                for places in itertools.permutations(range(len(table))):
                    thing = ((name, places),)
                    self.assertIs(parts_hold(table, thing), renamed(table, places) == table or renamed_within(table, places) == table)
        rnd = seeded("right orders")
        for many in (7, 9, 12):
            ring = ring_web(many)
            for start in range(many):
                order = tuple((start + k) % many for k in range(many))
                self.whether(True, parts_hold, ring, ((("A+", many - 1), order),))
                self.whether(True, parts_hold, ring, ((("A+", many - 1), order[::-1]),))
            order = rnd.sample(range(many), many)
            self.whether(parts_right(ring, ((("A+", many - 1), tuple(order)),)), parts_hold, ring, ((("A+", many - 1), tuple(order)),))

    def test_other_names(self):
        for name in NAMES:
            table = diagram_by_hand(name)
            for other in NAMES:
                self.whether(name == other, parts_hold, table, ((other, tuple(range(len(table)))),))

    def test_webs_above_two(self):
        for table in high_webs():
            many = len(table)
            for name in NAMES:
                if len(diagram_by_hand(name)) == many:
                    self.whether(False, parts_hold, table, ((name, tuple(range(many))),))

    def test_any_value(self):
        path = web(3, [(0, 1), (0, 2)])
        for table in (zero_table(1), zero_table(2), path, full_web(3), beside(full_web(3), ((0,),)), beside(((0,),), path), star_web(4),
                      full_web(4)):
            told = part_names(table) if never_high(table) else ((("A", 4), (0, 1, 2, 3)),)
            things = any_values() + bent(told, [None, True, 0, 1, 2, "A", "A+", (), [], ("A", 1), (0,)])
            things += [told[::-1], list(told), told + told, told[:-1], (told,), tuple(item[::-1] for item in told),
                       tuple((name, places[::-1]) for name, places in told), tuple((name, list(places)) for name, places in told),
                       tuple((list(name), places) for name, places in told), ((("A", 1), (False,)),), ((("A", True), (0,)),)]
            for thing in things:
                self.assertIs(parts_hold(table, thing), parts_right(table, thing), (table, thing))

    def test_wrong_webs(self):
        for wrong in wrong_for_webs():
            self.raises(BadWeb, wrong, part_names, wrong)
            self.raises(BadWeb, wrong, parts_hold, wrong, ((("A", 1), (0,)),))
            self.raises(BadWeb, wrong, parts_hold, wrong, None)


if __name__ == "__main__":
    unittest.main()
