"""The interface: each name in its file, its parameters with their names, passed by position or by name."""

import importlib
import inspect
import unittest

from tests.helpers import same
from withintwo.workshops import Workshop

PATH = ((0, 1, 0), (1, 0, 1), (0, 1, 0))
PAIR = ((0, 1), (1, 0))
TURN = ((1, 2, 0), (1, -1, 1))
D4, E6 = ("D", 4), ("E", 6)
ROWS = ((2, 2, 0), (2, 0, 2))
THREE = ((0, 1, 1), (1, 0, 1), (1, 1, 0))
DRAWING = (3, ((0, 1), (0, 2)))
CUBE = ((0, 1, 1, 1), (1, 0, -1, -1), (1, -1, 0, -1), (1, -1, -1, 0))
PLAIN = ((0, -1, 0), (-1, 0, -1), (0, -1, 0))
TURNED = ((0, -1, 1, 1), (-1, 0, 1, 1), (1, 1, 0, -1), (1, 1, -1, 0))
# For each file the functions, and for each of these its parameters with one right value each.
INTERFACE = {
    "tables": {
        "is_table": {"thing": PATH}, "is_looped_web": {"thing": PATH}, "is_signed_web": {"thing": PATH},
        "is_web": {"thing": PATH}, "is_lot": {"table": PATH, "thing": (0, 2)}, "is_row": {"table": PATH, "thing": (1, 2, 3)},
        "neighbours": {"table": PATH, "place": 1}, "parts_of": {"table": PATH}, "is_joined": {"table": PATH},
        "within": {"table": PATH, "lot": (0, 2)}, "beside": {"one": PATH, "other": PAIR}, "square_of": {"row": (1, 2)},
        "weight_of": {"table": PATH, "row": (1, 2, 3)}, "image_of": {"table": PATH, "row": (1, 2, 3)},
        "opposite": {"table": PATH},
    },
    "turnings": {
        "is_turning": {"table": PATH, "thing": TURN}, "led": {"table": PATH, "turning": TURN},
        "row_led": {"table": PATH, "turning": TURN, "row": (1, 2, 3)},
        "both": {"table": PATH, "first": TURN, "second": ((0, 2, 1), (1, 1, -1))}, "back": {"table": PATH, "turning": TURN},
        "judge_signs": {"one": PATH, "other": PATH}, "signs_hold": {"one": PATH, "other": PATH, "thing": ("signs", (1, 1, 1))},
        "sign_along": {"table": ((0, -1, 1), (-1, 0, 1), (1, 1, 0)), "ring": (0, 1, 2)},
        "turning_between": {"one": PATH, "other": PATH}, "plain_signs": {"table": PATH},
    },
    "texts": {"text_of": {"table": PATH}, "read_table": {"text": "table 1\n5"}},
    "valuepolys": {
        "value_poly": {"table": PATH}, "poly_value": {"poly": (1, 2, 3), "number": (1, 2)},
        "moved_poly": {"poly": (1, 2, 3), "number": (1, 2)}, "sign_changes": {"numbers": ((1, 2), (-1, 2))},
    },
    "values": {
        "many_values": {"table": PATH, "number": (1, 2)}, "value_at": {"table": PATH, "place": 2, "bits": 5},
        "whole_values": {"table": PATH}, "power_sum": {"table": PATH, "k": 4}, "kept_base": {"table": PATH, "whole": 0},
        "is_kept": {"table": PATH, "whole": 0, "thing": (1, 0, -1)},
    },
    "squares": {
        "written": {"table": PATH, "number": (1, 2)}, "written_holds": {"table": ((1,),), "number": (0, 1), "thing": (((1, 1), (1,)),)},
        "judge_low": {"table": PATH, "number": (1, 2)}, "low_holds": {"table": PATH, "number": (1, 2), "thing": ("low", (1, -1, 0))},
        "judge_high": {"table": PATH, "number": (1, 2)}, "high_holds": {"table": PATH, "number": (1, 2), "thing": ("high", (1, 1, 0))},
    },
    "roots": {
        "roots_of": {"table": PATH}, "is_root": {"table": PAIR, "thing": (2, 1)}, "base_of": {"table": PATH}, "rank_of": {"table": PATH},
        "row_for": {"table": PAIR, "root": (1, -1)}, "product_of": {"table": PAIR, "one": (1, -1), "other": (1, 2)},
        "parts_of_root": {"table": PAIR, "root": (2, 1)},
    },
    "kinds": {
        "kinds_of": {"table": PATH}, "is_kind": {"thing": D4}, "kind_table": {"kind": D4}, "many_roots": {"kind": D4},
        "many_bases": {"kind": D4}, "root_rows": {"kind": E6}, "holds_kind": {"one": E6, "other": D4},
    },
    "lows": {"is_good": {"thing": PATH}, "judge_good": {"table": PATH}, "good_holds": {"table": PAIR, "thing": ("rows", ROWS)}},
    "growing": {
        "with_place": {"table": PAIR, "c": (0, -1)}, "places_let": {"table": PAIR}, "does_let": {"table": PAIR, "c": (0, -1)},
        "judge_going": {"table": PATH}, "going_holds": {"table": PAIR, "thing": ("plain", ROWS)}, "does_go_on": {"table": PATH},
    },
    "linewebs": {
        "is_drawing": {"thing": DRAWING}, "line_web": {"drawing": DRAWING}, "plain_drawing": {"drawing": DRAWING},
        "point_rows": {"drawing": DRAWING}, "many_low": {"drawing": DRAWING}, "is_line_web": {"web": PATH}, "judge_lines": {"web": PATH},
        "lines_hold": {"web": PAIR, "thing": ("drawing", 3, ((0, 1), (0, 2)))}, "tellings": {"web": THREE}, "line_comings": {"web": PAIR},
    },
    "bars": {"nine_bars": {}, "bar_number": {"web": PATH}, "first_bar": {"web": PATH}},
    "diagrams": {
        "is_diagram_name": {"thing": ("D+", 4)}, "diagram": {"name": ("D+", 4)}, "ringed_row": {"name": ("D+", 4)},
        "cycle_number": {"name": E6}, "part_names": {"web": PATH}, "parts_hold": {"web": PAIR, "thing": ((("A", 2), (1, 0)),)},
    },
    "kept": {
        "is_never_high": {"web": PATH}, "judge_kept": {"web": PATH}, "kept_holds": {"web": PATH, "thing": ("kept", (2, 3, 2))},
        "is_below_two": {"web": PATH}, "judge_below": {"web": PATH}, "below_holds": {"web": THREE, "thing": ("ringed", ("A+", 2), (2, 0, 1))},
        "kept_rows": {"web": THREE}, "high_comings": {"web": PAIR}, "ring_sign": {"table": THREE}, "ring_ends": {"table": THREE},
    },
    "greatest": {
        "is_seat_name": {"thing": ("T", 3)}, "greatest": {"name": ("C", 2, 1, -1)},
        "is_seat": {"table": THREE, "thing": (("T", 3), (0, 2, 4), (1, 1, 1))},
    },
    "between": {
        "is_between": {"table": PATH}, "judge_between": {"table": PATH}, "holders": {"table": PATH}, "does_reach_on": {"table": PATH},
        "between_holds": {"table": THREE, "thing": ("placed", ((("T", 3), (0, 2, 4), (1, 1, 1)),))},
        "places_between": {"table": PAIR}, "with_looped_place": {"table": PAIR, "c": (0, -1, 1)},
    },
    "rounds": {
        "ring_polynomial": {"number": 12}, "round_polynomial": {"table": PATH}, "rounds_of": {"table": PATH},
        "rounds_hold": {"table": THREE, "thing": (3, 1, 3, 1)},
    },
    "angles": {
        "is_angles": {"thing": CUBE}, "judge_lines": {"table": CUBE, "a": 3}, "least_dimension": {"table": CUBE, "a": 3},
        "lines_hold": {"table": CUBE, "a": 2, "thing": ("low", (1, -1, -1, -1))}, "sum_bound": {"d": 7, "a": 3}, "most_lines": {"d": 16},
        "most_table": {"d": 4},
    },
    "triples": {
        "turned_lot": {"table": CUBE, "lot": (0, 2)}, "family_of": {"table": CUBE}, "lot_between": {"one": CUBE, "other": TURNED},
        "led_to": {"table": TURNED, "place": 1}, "web_behind": {"table": TURNED, "place": 1}, "judge_regular": {"table": CUBE},
        "regular_holds": {"table": CUBE, "thing": ("regular", 2)}, "judge_family": {"n": 4, "threes": ((0, 1, 2),)},
        "family_holds": {"n": 4, "threes": ((0, 1, 2),), "thing": ("four", (0, 1, 2, 3))},
    },
    "evenwebs": {
        "is_even_name": {"thing": ("twos", 2)}, "even_web": {"name": ("twos", 2)}, "is_even": {"web": THREE}, "judge_even": {"web": PATH},
        "even_holds": {"web": PATH, "thing": ("places", 0, 1)}, "even_values": {"web": THREE}, "opposite_web": {"web": PATH},
        "judge_name": {"web": THREE}, "name_holds": {"web": THREE, "thing": ("named", ("lots", 1, 3), (2, 0, 1))}, "even_name": {"web": THREE},
        "around": {"web": PATH, "place": 1},
    },
    "mirrors": {
        "mirrored": {"table": PAIR, "root": (2, 1), "place": 1}, "mirrored_by": {"table": PAIR, "root": (2, 1), "places": (1, 0)},
        "shortest_mirrors": {"table": PAIR, "one": (2, 1), "other": (1, 2)}, "exchanged": {"table": PAIR, "place": 0, "other": 1},
        "row_to_base": {"table": PATH}, "row_to_base_holds": {"table": PAIR, "thing": ((0, 1),)},
    },
    "heights": {
        "is_plain_base": {"thing": PLAIN}, "height": {"table": PLAIN, "root": (2, -1, 0)}, "heights": {"table": PLAIN},
        "greatest_root": {"table": PLAIN}, "after_tour": {"table": PLAIN, "root": (2, -1, 0)}, "tour_lengths": {"table": PLAIN},
    },
    "workshops": {"read_workshop": {"text": "workshop\ntable 1\n0\nlow"}},
}
# The methods of a workshop, likewise.
METHODS = {
    "web": {}, "promises": {}, "deeds": {}, "change": {"change": ("sign", 0)}, "deal": {"changes": (("sign", 0),)}, "would": {"changes": (("sign", 0),)},
    "judged": {"promise": ("rank", 1)}, "against_holds": {"promise": ("rank", 1), "thing": ("rank", 3)}, "undo": {}, "redo": {}, "copied": {},
}


class InterfaceTests(unittest.TestCase):
    def each(self):
        for file, functions in INTERFACE.items():
            module = importlib.import_module(f"withintwo.{file}")
            for name, values in functions.items():
                yield getattr(module, name), name, f"withintwo.{file}", values

    def test_names_and_parameters(self):
        for function, name, file, values in self.each():
            self.assertTrue(inspect.isfunction(function), name)
            self.assertEqual((function.__name__, function.__module__), (name, file))
            parameters = inspect.signature(function).parameters
            self.assertEqual(list(parameters)[:len(values)], list(values), name)
            for parameter in list(parameters.values())[:len(values)]:
                self.assertIs(parameter.kind, parameter.POSITIONAL_OR_KEYWORD, name)

    def test_by_position_and_by_name(self):
        for function, name, _, values in self.each():
            told = function(*values.values())
            self.assertTrue(same(function(**values), told), name)
            self.assertTrue(same(function(**dict(list(values.items())[::-1])), told), name)
            if values:
                first, *more = values.items()
                self.assertTrue(same(function(first[1], **dict(more)), told), name)

    def test_methods(self):
        self.assertEqual(list(inspect.signature(Workshop).parameters)[:1], ["web"])
        for name, values in METHODS.items():
            method = vars(Workshop)[name]
            self.assertTrue(inspect.isfunction(method), name)
            self.assertEqual(list(inspect.signature(method).parameters)[1:len(values) + 1], list(values), name)
            told = []
            for by_name in (True, False):
                shop = Workshop(web=PATH)
                shop.change(("sign", 1))
                shop.deal(())
                if name == "redo":
                    shop.undo()
                told.append(getattr(shop, name)(**values) if by_name else getattr(shop, name)(*values.values()))
                told.append(str(shop))
                if name in ("change", "deal", "undo", "redo"):
                    self.assertIsNone(told[-2], name)
                if name in ("would", "against_holds"):
                    self.assertIs(told[-2], True, name)
            self.assertTrue(same(told[:2], told[2:]), name)

    def test_whether_functions_return_bools(self):
        for function, name, _, values in self.each():
            if name.startswith(("is_", "does_")) or name.endswith(("_hold", "_holds")) or name == "holds_kind":
                self.assertIs(function(**values), True, name)
                if "thing" in values:
                    self.assertIs(function(**dict(values, thing=None)), False, name)


if __name__ == "__main__":
    unittest.main()
