"""The examples of the document, as they are written there."""

import ast
import re
import unittest

from tests.helpers import same
from withintwo import errors

EXAMPLES = [
    """
>>> from withintwo.tables import beside, image_of, is_signed_web, is_table, is_web, neighbours, parts_of, square_of, weight_of, within
>>> PATH = ((0, 1, 0), (1, 0, 1), (0, 1, 0))
>>> [is_web(PATH), is_signed_web(((0, -1), (-1, 0))), is_web(((0, -1), (-1, 0))), is_table(((1, 2), (3, 4))), neighbours(PATH, 1), weight_of(PATH, (1, -1, 1)), square_of((1, -1, 1)), image_of(PATH, (1, -1, 1))]
[True, True, False, False, (0, 2), -4, 3, (-1, 2, -1)]
>>> [parts_of(beside(PATH, ((1,),))), within(PATH, (0, 2)), is_table(((True,),)), is_table(())]
[((0, 1, 2), (3,)), ((0, 0), (0, 0)), False, False]
>>> from withintwo.turnings import back, both, judge_signs, led, plain_signs, row_led, sign_along, signs_hold, turning_between
>>> THREE, BENT = ((0, 1, 1), (1, 0, 1), (1, 1, 0)), ((0, -1, 1), (-1, 0, 1), (1, 1, 0))
>>> [sign_along(THREE, (0, 1, 2)), sign_along(BENT, (2, 0, 1)), signs_hold(THREE, BENT, ('ring', (0, 1, 2))), judge_signs(THREE, BENT)[0], turning_between(THREE, BENT)]
[1, -1, True, 'ring', None]
>>> turn = ((1, 2, 0), (1, -1, 1))
>>> [led(BENT, turn), row_led(BENT, turn, (5, 7, 9)), both(BENT, turn, turn), back(BENT, turn), plain_signs(((0, -1, -1), (-1, 0, -1), (-1, -1, 0)))]
[((0, 1, -1), (1, 0, 1), (-1, 1, 0)), (9, 5, -7), ((2, 0, 1), (-1, -1, 1)), ((2, 0, 1), (1, 1, -1)), ((0, 1, 1), (1, 0, -1), (1, -1, 0))]
>>> judge_signs(THREE, ((0, 1, 1), (1, 2, 1), (1, 1, 0)))
('pair', 1, 1)
>>> from withintwo.texts import read_table, text_of
>>> [text_of(((0, 1), (1, -3))), read_table('table 2\\n0\\n1 -3')]
['table 2\\n0\\n1 -3', ((0, 1), (1, -3))]
>>> read_table('table 2\\n0\\n1')
raises BadText(3)
""",
    """
>>> from withintwo.valuepolys import moved_poly, poly_value, sign_changes, value_poly
>>> path, three = ((0, 1, 0), (1, 0, 1), (0, 1, 0)), ((0, 1, 1), (1, 0, 1), (1, 1, 0))
>>> [value_poly(path), value_poly(three), poly_value((-2, -3, 0, 1), (1, 2)), moved_poly((-1, 0, 1), (1, 1)), sign_changes(((1, 1), (0, 1), (-2, 3), (5, 1)))]
[(0, -2, 0, 1), (-2, -3, 0, 1), (-27, 8), ((0, 1), (2, 1), (1, 1)), 2]
>>> from withintwo.values import kept_base, many_values, power_sum, value_at, whole_values
>>> path, three = ((0, 1, 0), (1, 0, 1), (0, 1, 0)), ((0, 1, 1), (1, 0, 1), (1, 1, 0))
>>> [many_values(three, (-1, 1)), whole_values(three), kept_base(three, -1), kept_base(three, 2), power_sum(three, 3), value_at(path, 2, 10), value_at(path, 0, 0)]
[(0, 2, 1), ((-1, 2), (2, 1)), ((1, 0, -1), (0, 1, -1)), ((1, 1, 1),), 6, 1448, -2]
>>> from withintwo.squares import low_holds, high_holds, written_holds
>>> pair, three = ((0, 1), (1, 0)), ((0, 1, 1), (1, 0, 1), (1, 1, 0))
>>> [low_holds(three, (-1, 1), ('squares', (((1, 1), (1, 1, 1)),))), low_holds(three, (0, 1), ('low', (1, -1, 0))), high_holds(three, (3, 2), ('high', (1, 1, 1))), written_holds(pair, (0, 1), (((1, 2), (1, 1)), ((-1, 2), (1, -1)))), written_holds(pair, (0, 1), (((1, 1), (1, 1)),))]
[True, True, True, True, False]
>>> from withintwo.squares import judge_low
>>> judge_low(((0,),), (0, 1))
('squares', ())
>>> from withintwo.values import value_at
>>> value_at(((0, 1), (1, 0)), 2, 3)
raises BadPlace(2)
""",
    """
>>> from withintwo.roots import base_of, is_root, parts_of_root, product_of, rank_of, roots_of, row_for
>>> TWO = ((0, 1), (1, 0))
>>> [roots_of(TWO), base_of(TWO), rank_of(TWO), is_root(TWO, (1, 1)), product_of(TWO, (1, -1), (1, 2)), parts_of_root(TWO, (2, 1)), parts_of_root(TWO, (-1, 1)), row_for(TWO, (1, -1))]
[((-2, -1), (-1, -2), (-1, 1), (1, -1), (1, 2), (2, 1)), ((1, -1), (1, 2)), 2, False, -1, (1, 1), (-1, 0), (1, -1)]
>>> from withintwo.kinds import holds_kind, kind_table, kinds_of, many_bases, many_roots, root_rows
>>> SQUARE = ((0, 1, 0, 1), (1, 0, 1, 0), (0, 1, 0, 1), (1, 0, 1, 0))
>>> STAR = ((0, 1, 1, 1, 1), (1, 0, 0, 0, 0), (1, 0, 0, 0, 0), (1, 0, 0, 0, 0), (1, 0, 0, 0, 0))
>>> [kinds_of(SQUARE), kinds_of(STAR), rank_of(SQUARE), many_roots(('D', 4)), many_bases(('D', 4)), root_rows(('A', 1)), len(root_rows(('E', 7)))]
[(('A', 3),), (('D', 4),), 3, 24, 192, ((-2, 2), (2, -2)), 126]
>>> [kind_table(('D', 4)), holds_kind(('E', 7), ('A', 7)), holds_kind(('E', 6), ('A', 6)), holds_kind(('D', 4), ('A', 4))]
[((0, -1, 0, 0), (-1, 0, -1, -1), (0, -1, 0, 0), (0, -1, 0, 0)), True, False, False]
""",
    """
>>> from withintwo.lows import good_holds, is_good, judge_good
>>> STAR = ((0, 1, 1, 1), (1, 0, 0, 0), (1, 0, 0, 0), (1, 0, 0, 0))
>>> SIX = ((0, 1, 1, 1, 1, 1), (1, 0, 0, 0, 0, 0), (1, 0, 0, 0, 0, 0), (1, 0, 0, 0, 0, 0), (1, 0, 0, 0, 0, 0), (1, 0, 0, 0, 0, 0))
>>> [is_good(STAR), is_good(SIX), good_holds(SIX, ('low', (-2, 1, 1, 1, 1, 1))), good_holds(SIX, ('low', (-1, 1, 1, 1, 0, 0))), judge_good(STAR)[0]]
[True, False, True, False, 'rows']
>>> good_holds(STAR, ('rows', ((2, 2, 0, 0), (2, 0, 2, 0), (2, 0, -2, 0), (0, 2, 0, 2))))
True
>>> from withintwo.growing import does_go_on, does_let, going_holds, places_let, with_place
>>> ONE, TWO = ((0,),), ((0, 1), (1, 0))
>>> [places_let(ONE), len(places_let(TWO)), with_place(TWO, (0, -1)), does_let(STAR, (1, 1, 1, 1)), does_go_on(STAR), does_go_on(ONE)]
[((-1,), (0,), (1,)), 9, ((0, 1, 0), (1, 0, -1), (0, -1, 0)), True, True, True]
>>> from withintwo.kinds import kind_table
>>> same = ((1, 0, 0, 0, 0, 0), (0, 1, 0, 0, 0, 0), (0, 0, 1, 0, 0, 0), (0, 0, 0, 1, 0, 0), (0, 0, 0, 0, 1, 0), (0, 0, 0, 0, 0, 1))
>>> [going_holds(kind_table(('E', 6)), ('six', same)), does_go_on(kind_table(('E', 6)))]
[True, False]
""",
    """
>>> from withintwo.linewebs import line_web, plain_drawing, point_rows, many_low, is_line_web
>>> [line_web((3, ((0, 1), (0, 2)))), plain_drawing((3, ((0, 1), (0, 2)))), point_rows((3, ((0, 1), (0, 2))))]
[((0, 1), (1, 0)), (3, ((0, 1), (1, 2))), ((2, 2, 0), (2, 0, 2))]
>>> [many_low((4, ((0, 1), (0, 3), (1, 2), (2, 3)))), many_low((3, ((0, 1), (0, 2), (1, 2)))), is_line_web(((0, 0, 0, 1), (0, 0, 0, 1), (0, 0, 0, 1), (1, 1, 1, 0)))]
[1, 0, False]
>>> from withintwo.linewebs import tellings, lines_hold, line_comings
>>> three = ((0, 1, 1), (1, 0, 1), (1, 1, 0))
>>> [tellings(three), lines_hold(three, ('drawing', 4, ((0, 3), (1, 3), (2, 3)))), lines_hold(three, ('bar', (0, 1, 2)))]
[((3, ((0, 1), (0, 2), (1, 2))), (4, ((0, 1), (1, 2), (1, 3)))), True, False]
>>> line_comings(((0, 1), (1, 0)))
((0, 0), (0, 1), (1, 0), (1, 1))
>>> from withintwo.bars import bar_number, first_bar, nine_bars
>>> [bar_number(((0, 1, 1, 1), (1, 0, 0, 0), (1, 0, 0, 0), (1, 0, 0, 0))), bar_number(three), first_bar(((0, 1, 1, 1, 0), (1, 0, 0, 0, 1), (1, 0, 0, 0, 0), (1, 0, 0, 0, 0), (0, 1, 0, 0, 0))), len(nine_bars())]
[0, None, (0, 1, 2, 3), 9]
""",
    """
>>> from withintwo.diagrams import diagram, ringed_row, cycle_number, part_names, parts_hold
>>> [diagram(('D', 4)), ringed_row(('D+', 4)), cycle_number(('E', 7))]
[((0, 1, 0, 0), (1, 0, 1, 1), (0, 1, 0, 0), (0, 1, 0, 0)), (1, 2, 1, 1, 1), 18]
>>> [part_names(((0, 0), (0, 0))), parts_hold(((0, 1, 1), (1, 0, 0), (1, 0, 0)), ((('A', 3), (2, 0, 1)),)), parts_hold(((0, 1), (1, 0)), ((('A', 2), (0, 0)),))]
[((('A', 1), (0,)), (('A', 1), (1,))), True, False]
>>> from withintwo.kept import below_holds, high_comings, is_never_high, kept_holds, kept_rows
>>> full = ((0, 1, 1, 1), (1, 0, 1, 1), (1, 1, 0, 1), (1, 1, 1, 0))
>>> [is_never_high(full), kept_holds(full, ('high', (1, 1, 1, 1))), kept_holds(full, ('kept', (1, 1, 1, 1))), below_holds(full, ('ringed', ('A+', 2), (0, 1, 2)))]
[False, True, False, True]
>>> three = ((0, 1, 1), (1, 0, 1), (1, 1, 0))
>>> [kept_rows(three), high_comings(three), high_comings(((0, 1), (1, 0)))]
[((1, 1, 1),), ((0, 0, 0),), ((0, 0), (0, 1), (1, 0), (1, 1))]
>>> from withintwo.kept import ring_sign, ring_ends
>>> [ring_sign(((0, 1, -1), (1, 0, 1), (-1, 1, 0))), ring_ends(((0, 1, -1), (1, 0, 1), (-1, 1, 0))), ring_ends(three), ring_ends(((0, 1), (1, 0)))]
[-1, (False, True), (True, False), None]
""",
    """
>>> from withintwo.greatest import greatest, is_seat, is_seat_name
>>> THREE = ((0, 1, 1), (1, 0, 1), (1, 1, 0))
>>> [greatest(('C', 2, 1, -1)), is_seat_name(('C', 2, -1, 1)), len(greatest(('S', 16, 0))), is_seat(THREE, (('T', 3), (0, 2, 4), (1, 1, 1)))]
[((1, 1, 1, 1), (1, 1, -1, -1), (1, -1, -1, 1), (1, -1, 1, -1)), False, 16, True]
>>> from withintwo.between import between_holds, does_reach_on, holders, is_between, judge_between, places_between
>>> FOUR = ((0, 1, 1, 1), (1, 0, 1, 1), (1, 1, 0, 1), (1, 1, 1, 0))
>>> [is_between(THREE), is_between(FOUR), between_holds(FOUR, ('beyond', (1, 1, 1, 1))), holders(THREE), does_reach_on(THREE), judge_between(((0,),))[0]]
[True, False, True, (('S', 7, 1), ('T', 3)), False, 'placed']
>>> [does_reach_on(((0, 1), (1, 0))), places_between(((1,),))]
[True, ((-1, -1), (-1, 0), (-1, 1), (0, -1), (0, 0), (0, 1), (1, -1), (1, 0), (1, 1))]
>>> from withintwo.rounds import ring_polynomial, round_polynomial, rounds_hold, rounds_of
>>> [ring_polynomial(6), round_polynomial(((0, 1), (1, 0))), rounds_of(((0, 1), (1, 0))), rounds_of(((0,),)), rounds_of(((1,),)), rounds_of(THREE), rounds_hold(THREE, (3, 1, 3, 1))]
[(1, -1, 1), (1, 0, 1, 0, 1), (3, 6), (4,), (6,), (1, 1, 3, 3), True]
>>> ring_polynomial(0)
raises BadNumber(0)
""",
    """
>>> from withintwo.angles import is_angles, least_dimension, lines_hold, most_lines, sum_bound
>>> cube = ((0, 1, 1, 1), (1, 0, -1, -1), (1, -1, 0, -1), (1, -1, -1, 0))
>>> [is_angles(cube), least_dimension(cube, 3), least_dimension(cube, 2), lines_hold(cube, 2, ('low', (1, -1, -1, -1))), sum_bound(3, 3), most_lines(3), most_lines(7), most_lines(16)]
[True, 3, None, True, (4, 1), 4, 28, 30]
>>> from withintwo.triples import family_of, lot_between, regular_holds, turned_lot, web_behind
>>> cube = ((0, 1, 1, 1), (1, 0, -1, -1), (1, -1, 0, -1), (1, -1, -1, 0))
>>> other = turned_lot(cube, (0,))
>>> [family_of(cube), other[0], lot_between(cube, other), regular_holds(cube, ('regular', 2)), web_behind(other, 0)]
[((0, 1, 2), (0, 1, 3), (0, 2, 3), (1, 2, 3)), (0, -1, -1, -1), (1, 2, 3), True, ((0, 1, 1), (1, 0, 1), (1, 1, 0))]
>>> from withintwo.triples import family_holds, judge_family
>>> [judge_family(4, ((0, 1, 2),)), family_holds(3, ((0, 1, 2),), ('table', ((0, -1, 1), (-1, 0, 1), (1, 1, 0)))), family_holds(3, (), ('table', ((0, -1, -1), (-1, 0, 1), (-1, 1, 0))))]
[('four', (0, 1, 2, 3)), True, True]
>>> from withintwo.triples import judge_family
>>> judge_family(3, ((0, 1, 3),))
raises BadTriples(((0, 1, 3),))
""",
    """
>>> from withintwo.evenwebs import even_web, judge_even, even_values, even_name
>>> [judge_even(even_web(('petersen',))), even_values(even_web(('petersen',))), even_values(even_web(('ring',)))]
[('counts', 3, 0, 1), ((-2, 4), (1, 5), (3, 1)), None]
>>> [even_values(even_web(('lots', 3, 2))), even_name(((0, 1, 0, 1), (1, 0, 1, 0), (0, 1, 0, 1), (1, 0, 1, 0))), judge_even(((0, 0), (0, 0)))]
[((-1, 3), (1, 3)), ('twos', 2), ('counts', 0, None, 0)]
>>> from withintwo.evenwebs import even_holds, name_holds, opposite_web, around
>>> way = ((0, 1, 0), (1, 0, 1), (0, 1, 0))
>>> [even_holds(way, ('places', 0, 1)), even_name(way), name_holds(even_web(('twos', 2)), ('named', ('twos', 2), (1, 0, 2, 3)))]
[True, None, True]
>>> [judge_even(opposite_web(even_web(('clebsch',)))), around(even_web(('square', 3)), 0), around(((0,),), 0)]
[('counts', 5, 0, 2), ((0, 1, 0, 0), (1, 0, 0, 0), (0, 0, 0, 1), (0, 0, 1, 0)), ()]
""",
    """
>>> from withintwo.mirrors import row_to_base_holds, exchanged, mirrored, mirrored_by, shortest_mirrors
>>> pair = ((0, 1), (1, 0))
>>> [mirrored(pair, (2, 1), 1), mirrored_by(pair, (2, 1), (1, 0)), shortest_mirrors(pair, (2, 1), (1, 2)), exchanged(pair, 0, 1), row_to_base_holds(pair, ((0, 1),)), row_to_base_holds(pair, ())]
[(1, -1), (-1, -2), (0, 1, 0), ((0, -1), (-1, 0)), True, False]
>>> from withintwo.heights import after_tour, greatest_root, height, heights, is_plain_base, tour_lengths
>>> path = ((0, -1, 0), (-1, 0, -1), (0, -1, 0))
>>> [is_plain_base(path), heights(path), greatest_root(path), height(path, (2, -1, 0)), after_tour(path, (2, -1, 0)), tour_lengths(path)]
[True, (3, 2, 1), (1, 0, 1), 1, (-1, 0, -1), (4, 4, 4)]
>>> from withintwo.mirrors import exchanged
>>> exchanged(((0, 1), (1, 0)), 0, 0)
raises BadPlace(0)
""",
    """
>>> from withintwo.workshops import Workshop, read_workshop
>>> shop = Workshop(((0, 1), (1, 0)))
>>> shop.deal((('promise', ('between',)), ('come', (1, 0))))
>>> [shop.web(), shop.promises(), shop.deeds(), str(shop), shop.would((('come', (1, 1, 1)),)), shop.would((('come', (0, 1, 0)),))]
[((0, 1, 1), (1, 0, 0), (1, 0, 0)), (('between',),), 1, 'workshop\\ntable 3\\n0\\n1 0\\n1 0 0\\nbetween', False, True]
>>> shop.change(('sign', 0))
>>> shop.undo()
>>> [shop.web(), shop.deeds(), shop.judged(('low',)), shop.judged(('rank', 1)), shop.judged(('line',)), shop == read_workshop(str(shop))]
[((0, 1, 1), (1, 0, 0), (1, 0, 0)), 1, ('holds',), ('rank', 3), ('holds',), True]
>>> shop.change(('swap', 0, 3))
raises BadPlace(3)
>>> from withintwo.workshops import read_workshop
>>> read_workshop('workshop\\ntable 2\\n0\\n2 0')
raises BadText(4)
""",
]


def steps_of(text):
    """The pairs of a line behind the sign >>> and the line that it shows, None where it shows none."""
    lines = [line for line in text.split("\n") if line]
    for at, line in enumerate(lines):
        if line.startswith(">>> "):
            shown = lines[at + 1] if at + 1 < len(lines) and not lines[at + 1].startswith(">>> ") else None
            yield line[4:], shown


class ExampleTests(unittest.TestCase):
    def test_examples(self):
        shown_ones = 0
        for text in EXAMPLES:
            names = {}
            for line, shown in steps_of(text):
                if shown is None:
                    exec(line, names)
                    continue
                shown_ones += 1
                failure = re.fullmatch(r"raises (\w+)\((.*)\)", shown)
                if failure is None:
                    told = eval(line, names)
                    self.assertTrue(same(told, ast.literal_eval(shown)), (line, told))
                    continue
                with self.assertRaises(errors.TableError) as caught:
                    eval(line, names)
                wanted = getattr(errors, failure[1])
                self.assertIs(type(caught.exception), wanted)
                value = next(iter(vars(wanted(ast.literal_eval(failure[2]))).items()))
                self.assertTrue(same(getattr(caught.exception, value[0]), value[1]), line)
        self.assertEqual(shown_ones, 49)


if __name__ == "__main__":
    unittest.main()
