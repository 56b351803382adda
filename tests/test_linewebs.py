"""[5.1] to [5.3], [5.5] to [5.7] and linewebs.py."""

import itertools
import unittest
from fractions import Fraction

from tests import helpers, linework
from tests.helpers import Case, any_values, beside, bent, full_web, ring_web, seeded, star_web, web, zero_table
from tests.linework import BARS, drawings, line_web as web_of_pairs, random_pairs, random_web, shuffled, webs_with_bars
from tests.test_bars import all_webs, wrong_for_webs
from withintwo.bars import first_bar
from withintwo.errors import BadTies, BadWeb, NotLine
from withintwo.linewebs import (is_drawing, is_line_web, judge_lines, line_comings, line_web, lines_hold, many_low, plain_drawing,
                                point_rows, tellings)
from withintwo.lows import good_holds
from withintwo.values import kept_base

ONE, TWO = ((0,),), ((0, 1), (1, 0))
THREE = full_web(3)
# The four joined line webs that have two tellings.
TWICE = [THREE, web(4, [(0, 1), (0, 2), (0, 3), (1, 2), (1, 3)]), web(5, [(0, k) for k in range(1, 5)] + [(1, 2), (2, 3), (3, 4), (1, 4)]),
         web(6, [pair for pair in itertools.combinations(range(6), 2) if pair not in ((0, 1), (2, 3), (4, 5))])]
RENAMED_TWICE = {linework.renamed(table, names) for table in TWICE for names in itertools.permutations(range(len(table)))}


def is_drawing_by_hand(thing):
    """The words of [5.1]."""
    if type(thing) is not tuple or len(thing) != 2 or not helpers.is_int(thing[0]) or type(thing[1]) is not tuple:
        return False
    many, ties = thing
    if not 2 <= many <= 24 or not 1 <= len(ties) <= 12 or not all(helpers.are_ints(pair, 2) for pair in ties):
        return False
    if not all(0 <= a < b < many for a, b in ties) or len({*ties}) != len(ties):
        return False
    return {point for pair in ties for point in pair} == {*range(many)}


def lots_of(drawing):
    many, ties = drawing
    return [tuple(place for place, pair in enumerate(ties) if point in pair) for point in range(many)]


def plain(drawing):
    """The plain drawing, by the words of [5.2]."""
    lots = lots_of(drawing)
    order = sorted(range(len(lots)), key=lots.__getitem__)
    return (drawing[0], tuple(tuple(sorted((order.index(a), order.index(b)))) for a, b in drawing[1]))


def tellings_by_hand(table):
    """All plain drawings of a web, by way of all its drawings."""
    return tuple(sorted({plain(drawing) for drawing in drawings(table)}))


def full_lot_ways(table):
    """The ways to part the ties of a web into full lots, each place in at most two of them, as sets of lots."""
    many = len(table)
    ties = {pair for pair in itertools.combinations(range(many), 2) if table[pair[0]][pair[1]]}
    full = [frozenset(lot) for size in range(2, many + 1) for lot in itertools.combinations(range(many), size)
            if all(pair in ties for pair in itertools.combinations(lot, 2))]
    found = []

    def go_on(left, lots):
        if not left:
            found.append(frozenset(lots))
            return
        first = min(left)
        for lot in full:
            own = {*itertools.combinations(sorted(lot), 2)}
            if first in own and own <= left and all(sum(place in other for other in lots) < 2 for place in lot):
                go_on(left - own, lots + [lot])

    go_on(ties, [])
    return found


def renamed_drawing(rnd, drawing):
    """The drawing with its points renamed in some way."""
    names = rnd.sample(range(drawing[0]), drawing[0])
    return (drawing[0], tuple(tuple(sorted((names[a], names[b]))) for a, b in drawing[1]))


def drawing_with(pairs):
    """The drawing of some pairs whose points are renamed so that each is in a pair."""
    points = sorted({point for pair in pairs for point in pair})
    return (len(points), tuple((points.index(a), points.index(b)) for a, b in pairs))


def random_drawing(rnd, points, many):
    return drawing_with(random_pairs(rnd, points, many))


def some_drawings():
    rnd = seeded("drawings")
    found = [(2, ((0, 1),)), (24, tuple((2 * k, 2 * k + 1) for k in range(12))), (24, tuple((k, 23 - k) for k in range(12))),
             (13, tuple((0, k) for k in range(1, 13))), (13, tuple((k, 12) for k in range(12))),
             (12, tuple((k, k + 1) for k in range(11)) + ((0, 11),)), (4, tuple(itertools.combinations(range(4), 2))),
             (4, ((2, 3), (0, 1))), (3, ((0, 1), (0, 2))), (3, ((1, 2), (0, 2), (0, 1))), (6, ((0, 3), (1, 4), (2, 5)))]
    for points in (3, 4, 5, 6, 8, 12, 24):
        for many in (2, 5, 9, 12):
            if many <= points * (points - 1) // 2:
                found.append(random_drawing(rnd, points, many))
    return found


def wrong_drawings():
    things = any_values() + bent((3, ((0, 1), (0, 2)))) + bent((2, ((0, 1),)))
    things += [(3, ((0, 1), (0, 1), (0, 2))), (3, ((0, 1), (2, 0))), (2, ((1, 0),)), (3, ((0, 1),)), (4, ((0, 1), (0, 2))), (2, ()), (0, ()),
               (1, ()), (1, ((0, 0),)), (2, ((0, 0), (0, 1))), (2, ((0, 2),)), (2, ((-1, 0), (0, 1))), (25, tuple((k, 24) for k in range(12))),
               (26, tuple((2 * k, 2 * k + 1) for k in range(13))), (6, tuple(itertools.combinations(range(6), 2))[:13]),
               (14, tuple((0, k) for k in range(1, 14))), (3, [(0, 1), (0, 2)]), (3, ([0, 1], (0, 2))), [3, ((0, 1), (0, 2))],
               (True, ((0, 1),)), (2, ((False, True),)), (2, ((0, True),)), ("2", ((0, 1),)), (2, (("0", "1"),)), (2, ((0, 1, 1),)), (2, ((0,),)),
               (2, (0, 1)), (2,), (2, ((0, 1),), ()), (3, ((0, 1), (1, 3))), (4, ((0, 1), (1, 3))), (2, {(0, 1): True}), (None, ((0, 1),))]
    return [thing for thing in things if not is_drawing_by_hand(thing)]


def good_line_webs():
    """Line webs of up to twelve places, joined and not."""
    rnd = seeded("good line webs")
    found = [web_of_pairs(drawing[1]) for drawing in some_drawings()] + TWICE + [zero_table(12), full_web(12), ONE, TWO, ring_web(12)]
    for one in TWICE:
        for other in TWICE + [ONE, TWO, full_web(4), ring_web(5), ring_web(4)]:
            if len(one) + len(other) <= 12:
                found.append(shuffled(rnd, beside(one, other)))
    return found + [beside(THREE, THREE, THREE, THREE), beside(THREE, TWICE[1], TWICE[2]), beside(THREE, ONE, ONE, ONE)]


LINE_WEBS = good_line_webs()


class DrawingTests(Case):
    def test_is_drawing(self):
        for drawing in some_drawings():
            self.assertTrue(is_drawing_by_hand(drawing))
            self.whether(True, is_drawing, drawing)
        for thing in wrong_drawings():
            self.whether(False, is_drawing, thing)

    def test_wrong_drawings(self):
        for thing in wrong_drawings():
            for function in (line_web, plain_drawing, point_rows, many_low):
                self.raises(BadTies, thing, function, thing)

    def test_examples(self):
        self.same(line_web((3, ((0, 1), (0, 2)))), TWO)
        self.same(plain_drawing((3, ((0, 1), (0, 2)))), (3, ((0, 1), (1, 2))))
        self.same(point_rows((3, ((0, 1), (0, 2)))), ((2, 2, 0), (2, 0, 2)))
        self.same([many_low((4, ((0, 1), (0, 3), (1, 2), (2, 3)))), many_low((3, ((0, 1), (0, 2), (1, 2))))], [1, 0])

    def test_line_webs(self):
        for drawing in some_drawings():
            told = self.told(line_web, drawing)
            self.same(told, web_of_pairs(drawing[1]))
            self.whether(True, is_line_web, told)

    def test_plain_drawings(self):
        rnd = seeded("plain drawings")
        for drawing in some_drawings():
            told = self.told(plain_drawing, drawing)
            self.same(told, plain(drawing))
            self.assertTrue(is_drawing_by_hand(told))
            self.assertEqual(lots_of(told), sorted(lots_of(drawing)))
            self.same(plain_drawing(told), told)
            self.same(line_web(told), line_web(drawing))
            for _ in range(3):
                self.same(plain_drawing(renamed_drawing(rnd, drawing)), told)

    def test_all_small_drawings(self):
        for many in (2, 3, 4):
            pairs = list(itertools.combinations(range(many), 2))
            for size in range(1, len(pairs) + 1):
                for ties in itertools.permutations(pairs, size) if size <= 3 else [pairs[:size], pairs[::-1][:size]]:
                    drawing = (many, tuple(ties))
                    wanted = is_drawing_by_hand(drawing)
                    self.whether(wanted, is_drawing, drawing)
                    if wanted:
                        self.same(plain_drawing(drawing), plain(drawing))
                        self.assertIn(plain_drawing(drawing), tellings(line_web(drawing)))

    def test_point_rows(self):
        for drawing in some_drawings():
            rows = self.told(point_rows, drawing)
            self.same(rows, tuple(tuple(2 * (point in pair) for point in range(drawing[0])) for pair in drawing[1]))
            self.whether(True, good_holds, line_web(drawing), ("rows", rows))

    def test_many_low(self):
        for drawing in some_drawings():
            many, ties = drawing
            table = web(many, ties) if many <= 12 else None
            told = self.told(many_low, drawing)
            self.same(told, helpers.inertia(line_web(drawing), Fraction(-2))[1])
            self.same(told, len(kept_base(line_web(drawing), -2)))
            if table is not None:
                sided = 0
                for part in helpers.parts_of(table):
                    within = helpers.within(table, part)
                    sided += any(all(sides[i] != sides[j] for i in range(len(part)) for j in range(len(part)) if within[i][j])
                                 for sides in itertools.product((0, 1), repeat=len(part)))
                self.same(told, len(ties) - many + sided)
        for many in range(3, 13):
            ring = tuple((k, k + 1) for k in range(many - 1)) + ((0, many - 1),)
            self.same(many_low((many, ring)), 1 - many % 2)
        self.same(many_low((24, tuple((2 * k, 2 * k + 1) for k in range(12)))), 0)


class TellingTests(Case):
    def test_examples(self):
        self.same(tellings(THREE), ((3, ((0, 1), (0, 2), (1, 2))), (4, ((0, 1), (1, 2), (1, 3)))))
        self.same(tellings(ONE), ((2, ((0, 1),)),))
        self.same(tellings(zero_table(2)), ((4, ((0, 1), (2, 3))),))
        self.same(tellings(star_web(3)), ())

    def test_four_joined_webs_with_two(self):
        rnd = seeded("four with two")
        for table in TWICE:
            for _ in range(5):
                self.assertEqual(len(tellings(shuffled(rnd, table))), 2)
            self.assertEqual(len(tellings(beside(table, ONE))), 2)
            self.assertEqual(len(tellings(beside(table, ring_web(4)))), 2)
        for one, other in itertools.combinations_with_replacement(TWICE, 2):
            self.assertEqual(len(tellings(beside(one, other))), 4)
        self.assertEqual(len(tellings(beside(*[THREE] * 4))), 16)
        self.assertEqual(len(tellings(beside(THREE, ONE, THREE, ONE, THREE))), 8)

    def test_one_telling(self):
        for table in LINE_WEBS:
            twice = [part for part in helpers.parts_of(table) if helpers.within(table, part) in RENAMED_TWICE]
            self.assertEqual(len(self.told(tellings, table)), 2 ** len(twice))

    def test_few_places(self):
        for many in (1, 2, 3, 4, 5):
            for table in all_webs(many):
                told = tellings(table)
                self.same(told, tellings_by_hand(table))
                self.assertEqual(is_line_web(table), told != ())
                self.assertEqual(len(told), len(full_lot_ways(table)))

    def test_ways_to_part_ties(self):
        rnd = seeded("ways to part")
        for table in [random_web(rnd, 6, part) for part in (20, 40, 60, 75, 90) for _ in range(12)] + LINE_WEBS[:20]:
            if len(table) <= 6:
                lots = {frozenset(frozenset(lot) for lot in lots_of(drawing) if len(lot) > 1) for drawing in tellings(table)}
                self.assertEqual(lots, {*full_lot_ways(table)})

    def test_tellings_are_plain_drawings_of_the_web(self):
        for table in LINE_WEBS:
            told = self.told(tellings, table)
            self.assertEqual(list(told), sorted({*told}))
            for drawing in told:
                self.assertTrue(is_drawing_by_hand(drawing))
                self.assertEqual(plain(drawing), drawing)
                self.assertEqual(web_of_pairs(drawing[1]), table)

    def test_all_of_greater_webs(self):
        for table in LINE_WEBS:
            if 6 <= len(table) <= 9:
                self.same(tellings(table), tellings_by_hand(table))


class JudgeTests(Case):
    def is_right(self, table, thing):
        """The words of [5.5]."""
        if type(thing) is not tuple or not thing or not isinstance(thing[0], str):
            return False
        if thing[0] == "drawing":
            return len(thing) == 3 and is_drawing_by_hand(thing[1:]) and web_of_pairs(thing[2]) == table
        if thing[0] != "bar" or len(thing) != 2 or not helpers.is_lot(table, thing[1]) or thing[1] == ():
            return False
        return helpers.within(table, thing[1]) in linework.RENAMED

    def check(self, table, thing, wanted=None):
        right = self.is_right(table, thing)
        if wanted is not None:
            self.assertIs(right, wanted, (table, thing))
        self.whether(right, lines_hold, table, thing)

    def judged(self, table):
        told = self.told(judge_lines, table)
        self.assertTrue(self.is_right(table, told), (table, told))
        self.whether(True, lines_hold, table, told)
        self.whether(told[0] == "drawing", is_line_web, table)
        return told[0]

    def test_examples(self):
        self.whether(False, is_line_web, BARS[0])
        self.whether(True, lines_hold, THREE, ("drawing", 4, ((0, 3), (1, 3), (2, 3))))
        self.whether(False, lines_hold, THREE, ("bar", (0, 1, 2)))

    def test_line_webs(self):
        for table in LINE_WEBS:
            self.assertEqual(self.judged(table), "drawing")

    def test_webs_with_bars(self):
        for table in webs_with_bars(seeded("judged bars")):
            self.assertEqual(self.judged(table), "bar")
            self.same(tellings(table), ())

    def test_few_places(self):
        for many in (1, 2, 3, 4, 5):
            for table in all_webs(many):
                self.assertEqual(self.judged(table), "drawing" if linework.is_line(table) else "bar")

    def test_any_webs(self):
        rnd = seeded("judged lines")
        for many in (6, 7, 8, 10, 12):
            for part in (5, 10, 15, 60, 90, 97):
                table = random_web(rnd, many, part)
                wanted = "drawing" if linework.first_bar(table) is None else "bar"
                self.assertEqual(self.judged(table), wanted)

    def test_drawings_that_are_not_plain(self):
        rnd = seeded("renamed drawings")
        for table in LINE_WEBS[:40]:
            for telling in tellings(table):
                for _ in range(3):
                    self.check(table, ("drawing",) + renamed_drawing(rnd, telling), True)
                order = rnd.sample(range(len(table)), len(table))
                self.check(table, ("drawing", telling[0], tuple(telling[1][place] for place in order)))
                self.check(table, ("drawing", telling[0] + 1, telling[1]), False)
                self.check(table, ("drawing", telling[0], telling[1][:-1]), False)

    def test_bars_of_all_sorts(self):
        for table in webs_with_bars(seeded("bars of all sorts"))[::3]:
            for many in (4, 5, 6):
                for lot in itertools.islice(itertools.combinations(range(len(table)), many), 0, None, 3):
                    thing = ("bar", lot)
                    self.assertIs(lines_hold(table, thing), self.is_right(table, thing), (table, thing))
            lot = first_bar(table)
            self.check(table, ("bar", lot), True)
            self.check(table, ("bar", lot[::-1]), False)
            self.check(table, ("bar", lot[1:]), False)
            self.check(table, ("bar", lot + (12,)), False)
            self.check(table, ("bar", list(lot)), False)
            self.check(table, ("bar", tuple(range(len(table)))), len(lot) == len(table))

    def test_wrong_certificates(self):
        for table, other in itertools.permutations([ONE, TWO, THREE, BARS[0], BARS[4], ring_web(5), full_web(4), zero_table(2)], 2):
            self.check(table, judge_lines(other), False)
        for table in (ONE, TWO, THREE, BARS[0], BARS[1], zero_table(2)):
            things = any_values() + bent(judge_lines(table))
            things += [("drawing",), ("bar",), ("bar", ()), ("bar", (0,)), ("bar", (0, 1, 2, 3), ()), ("drawing", (2, ((0, 1),))),
                       ("drawing", 2, ((0, 1),)), ("drawing", 2, ((0, 1),), ()), ["drawing", 2, ((0, 1),)], ("drawing", 3, ((0, 1), (0, 2))),
                       ("drawing", 3, ((0, 1), (2, 0))), ("drawing", 3, ((0, 1), (0, 1), (0, 2))), ("drawing", 2, ((0, True),)),
                       ("drawing", 5, ((0, 1), (0, 2), (0, 3))), ("bar", (0, 1, 2, True)), ("bar", (False, 1, 2, 3)), ("bar", (0, 1, 2, 3)),
                       ("bar", (0, 1, 3, 2)), ("Bar", (0, 1, 2, 3)), ("low", (1, 1)), ("drawing", 4, [(0, 1), (2, 3)])]
            for thing in things:
                self.assertIs(lines_hold(table, thing), self.is_right(table, thing), (table, thing))

    def test_wrong_webs(self):
        for wrong in wrong_for_webs():
            for function in (is_line_web, judge_lines, tellings, line_comings):
                self.raises(BadWeb, wrong, function, wrong)
            for thing in (None, ("bar", (0, 1, 2, 3)), ("drawing", 2, ((0, 1),))):
                self.raises(BadWeb, wrong, lines_hold, wrong, thing)


def with_coming(table, coming):
    return tuple(row + (item,) for row, item in zip(table, coming)) + (coming + (0,),)


class ComingTests(Case):
    def by_trying(self, table):
        many = len(table)
        return tuple(c for c in itertools.product((0, 1), repeat=many) if is_line_web(with_coming(table, c)))

    def test_examples(self):
        self.same(line_comings(TWO), ((0, 0), (0, 1), (1, 0), (1, 1)))
        self.same(line_comings(ONE), ((0,), (1,)))

    def test_few_places(self):
        for many in (1, 2, 3, 4):
            for table in all_webs(many):
                if linework.is_line(table):
                    wanted = tuple(c for c in itertools.product((0, 1), repeat=many) if linework.is_line(with_coming(table, c)))
                    self.same(self.told(line_comings, table), wanted)

    def test_by_trying_all(self):
        for table in LINE_WEBS:
            if 5 <= len(table) <= 8:
                self.same(self.told(line_comings, table), self.by_trying(table))

    def test_eleven_places(self):
        rnd = seeded("eleven places")
        tables = [zero_table(11), ring_web(11), full_web(11), beside(THREE, THREE, THREE, TWO), beside(TWICE[3], TWICE[2])]
        tables += [web_of_pairs(random_pairs(rnd, points, 11)) for points in (6, 9)]
        for table in tables:
            told = self.told(line_comings, table)
            self.assertEqual(list(told), sorted({*told}))
            for c in rnd.sample(told, min(len(told), 40)):
                self.assertIsNone(linework.first_bar(with_coming(table, c)))
            for _ in range(40):
                c = tuple(rnd.choice((0, 0, 0, 1)) for _ in table)
                self.assertEqual(c in told, is_line_web(with_coming(table, c)))
        self.assertEqual(len(line_comings(zero_table(11))), 1 + 11 + 55)

    def test_no_line_webs(self):
        for table in BARS + webs_with_bars(seeded("no line webs"))[::4]:
            error = self.raised(line_comings, table)
            self.assertIs(type(error), NotLine)
            self.assertTrue(helpers.is_lot(table, error.lot))
            self.assertIn(helpers.within(table, error.lot), linework.RENAMED)
            self.whether(True, lines_hold, table, ("bar", error.lot))


if __name__ == "__main__":
    unittest.main()
