"""The interface: each name in its file, its parameters with their names, passed by position or by name."""

import importlib
import inspect
import unittest

from tests.helpers import same

PATH = ((0, 1, 0), (1, 0, 1), (0, 1, 0))
PAIR = ((0, 1), (1, 0))
TURN = ((1, 2, 0), (1, -1, 1))
D4, E6 = ("D", 4), ("E", 6)
ROWS = ((2, 2, 0), (2, 0, 2))
THREE = ((0, 1, 1), (1, 0, 1), (1, 1, 0))
DRAWING = (3, ((0, 1), (0, 2)))
CUBE = ((0, 1, 1, 1), (1, 0, -1, -1), (1, -1, 0, -1), (1, -1, -1, 0))
TURNED = ((0, -1, 1, 1), (-1, 0, 1, 1), (1, 1, 0, -1), (1, 1, -1, 0))
# For each file the functions, and for each of these its parameters with one right value each.
INTERFACE = {
    "tables": {
        "is_table": {"thing": PATH}, "is_looped_web": {"thing": PATH}, "is_signed_web": {"thing": PATH},
        "is_web": {"thing": PATH}, "is_lot": {"table": PATH, "thing": (0, 2)}, "is_row": {"table": PATH, "thing": (1, 2, 3)},
        "neighbours": {"table": PATH, "place": 1}, "parts_of": {"table": PATH}, "is_joined": {"table": PATH},
        "within": {"table": PATH, "lot": (0, 2)}, "beside": {"one": PATH, "other": PAIR}, "square_of": {"row": (1, 2)},
        "weight_of": {"table": PATH, "row": (1, 2, 3)}, "image_of": {"table": PATH, "row": (1, 2, 3)},
        "opposite": {"table": PATH},
    },
    "turnings": {
        "is_turning": {"table": PATH, "thing": TURN}, "led": {"table": PATH, "turning": TURN},
        "row_led": {"table": PATH, "turning": TURN, "row": (1, 2, 3)},
        "both": {"table": PATH, "first": TURN, "second": ((0, 2, 1), (1, 1, -1))}, "back": {"table": PATH, "turning": TURN},
        "judge_signs": {"one": PATH, "other": PATH}, "signs_hold": {"one": PATH, "other": PATH, "thing": ("signs", (1, 1, 1))},
        "sign_along": {"table": ((0, -1, 1), (-1, 0, 1), (1, 1, 0)), "ring": (0, 1, 2)},
        "turning_between": {"one": PATH, "other": PATH}, "plain_signs": {"table": PATH},
    },
    "texts": {"text_of": {"table": PATH}, "read_table": {"text": "table 1\n5"}},
    "valuepolys": {
        "value_poly": {"table": PATH}, "poly_value": {"poly": (1, 2, 3), "number": (1, 2)},
        "moved_poly": {"poly": (1, 2, 3), "number": (1, 2)}, "sign_changes": {"numbers": ((1, 2), (-1, 2))},
    },
    "values": {
        "many_values": {"table": PATH, "number": (1, 2)}, "value_at": {"table": PATH, "place": 2, "bits": 5},
        "whole_values": {"table": PATH}, "power_sum": {"table": PATH, "k": 4}, "kept_base": {"table": PATH, "whole": 0},
        "is_kept": {"table": PATH, "whole": 0, "thing": (1, 0, -1)},
    },
    "squares": {
        "written": {"table": PATH, "number": (1, 2)}, "written_holds": {"table": ((1,),), "number": (0, 1), "thing": (((1, 1), (1,)),)},
        "judge_low": {"table": PATH, "number": (1, 2)}, "low_holds": {"table": PATH, "number": (1, 2), "thing": ("low", (1, -1, 0))},
        "judge_high": {"table": PATH, "number": (1, 2)}, "high_holds": {"table": PATH, "number": (1, 2), "thing": ("high", (1, 1, 0))},
    },
    "roots": {
        "roots_of": {"table": PATH}, "is_root": {"table": PAIR, "thing": (2, 1)}, "base_of": {"table": PATH}, "rank_of": {"table": PATH},
        "row_for": {"table": PAIR, "root": (1, -1)}, "product_of": {"table": PAIR, "one": (1, -1), "other": (1, 2)},
        "parts_of_root": {"table": PAIR, "root": (2, 1)},
    },
    "kinds": {
        "kinds_of": {"table": PATH}, "is_kind": {"thing": D4}, "kind_table": {"kind": D4}, "many_roots": {"kind": D4},
        "many_bases": {"kind": D4}, "root_rows": {"kind": E6}, "holds_kind": {"one": E6, "other": D4},
    },
    "lows": {"is_good": {"thing": PATH}, "judge_good": {"table": PATH}, "good_holds": {"table": PAIR, "thing": ("rows", ROWS)}},
    "growing": {
        "with_place": {"table": PAIR, "c": (0, -1)}, "places_let": {"table": PAIR}, "does_let": {"table": PAIR, "c": (0, -1)},
        "judge_going": {"table": PATH}, "going_holds": {"table": PAIR, "thing": ("plain", ROWS)}, "does_go_on": {"table": PATH},
    },
    "linewebs": {
        "is_drawing": {"thing": DRAWING}, "line_web": {"drawing": DRAWING}, "plain_drawing": {"drawing": DRAWING},
        "point_rows": {"drawing": DRAWING}, "many_low": {"drawing": DRAWING}, "is_line_web": {"web": PATH}, "judge_lines": {"web": PATH},
        "lines_hold": {"web": PAIR, "thing": ("drawing", 3, ((0, 1), (0, 2)))}, "tellings": {"web": THREE}, "line_comings": {"web": PAIR},
    },
    "bars": {"nine_bars": {}, "bar_number": {"web": PATH}, "first_bar": {"web": PATH}},
    "diagrams": {
        "is_diagram_name": {"thing": ("D+", 4)}, "diagram": {"name": ("D+", 4)}, "ringed_row": {"name": ("D+", 4)},
        "cycle_number": {"name": E6}, "part_names": {"web": PATH}, "parts_hold": {"web": PAIR, "thing": ((("A", 2), (1, 0)),)},
    },
    "kept": {
        "is_never_high": {"web": PATH}, "judge_kept": {"web": PATH}, "kept_holds": {"web": PATH, "thing": ("kept", (2, 3, 2))},
        "is_below_two": {"web": PATH}, "judge_below": {"web": PATH}, "below_holds": {"web": THREE, "thing": ("ringed", ("A+", 2), (2, 0, 1))},
        "kept_rows": {"web": THREE}, "high_comings": {"web": PAIR}, "ring_sign": {"table": THREE}, "ring_ends": {"table": THREE},
    },
    "greatest": {
        "is_seat_name": {"thing": ("T", 3)}, "greatest": {"name": ("C", 2, 1, -1)},
        "is_seat": {"table": THREE, "thing": (("T", 3), (0, 2, 4), (1, 1, 1))},
    },
    "between": {
        "is_between": {"table": PATH}, "judge_between": {"table": PATH}, "holders": {"table": PATH}, "does_reach_on": {"table": PATH},
        "between_holds": {"table": THREE, "thing": ("placed", ((("T", 3), (0, 2, 4), (1, 1, 1)),))},
        "places_between": {"table": PAIR}, "with_looped_place": {"table": PAIR, "c": (0, -1, 1)},
    },
    "rounds": {
        "ring_polynomial": {"number": 12}, "round_polynomial": {"table": PATH}, "rounds_of": {"table": PATH},
        "rounds_hold": {"table": THREE, "thing": (3, 1, 3, 1)},
    },
    "angles": {
        "is_angles": {"thing": CUBE}, "judge_lines": {"table": CUBE, "a": 3}, "least_dimension": {"table": CUBE, "a": 3},
        "lines_hold": {"table": CUBE, "a": 2, "thing": ("low", (1, -1, -1, -1))}, "sum_bound": {"d": 7, "a": 3}, "most_lines": {"d": 16},
        "most_table": {"d": 4},
    },
    "triples": {
        "turned_lot": {"table": CUBE, "lot": (0, 2)}, "family_of": {"table": CUBE}, "lot_between": {"one": CUBE, "other": TURNED},
        "led_to": {"table": TURNED, "place": 1}, "web_behind": {"table": TURNED, "place": 1}, "judge_regular": {"table": CUBE},
        "regular_holds": {"table": CUBE, "thing": ("regular", 2)}, "judge_family": {"n": 4, "threes": ((0, 1, 2),)},
        "family_holds": {"n": 4, "threes": ((0, 1, 2),), "thing": ("four", (0, 1, 2, 3))},
    },
}


class InterfaceTests(unittest.TestCase):
    def each(self):
        for file, functions in INTERFACE.items():
            module = importlib.import_module(f"withintwo.{file}")
            for name, values in functions.items():
                yield getattr(module, name), name, f"withintwo.{file}", values

    def test_names_and_parameters(self):
        for function, name, file, values in self.each():
            self.assertTrue(inspect.isfunction(function), name)
            self.assertEqual((function.__name__, function.__module__), (name, file))
            parameters = inspect.signature(function).parameters
            self.assertEqual(list(parameters)[:len(values)], list(values), name)
            for parameter in list(parameters.values())[:len(values)]:
                self.assertIs(parameter.kind, parameter.POSITIONAL_OR_KEYWORD, name)

    def test_by_position_and_by_name(self):
        for function, name, _, values in self.each():
            told = function(*values.values())
            self.assertTrue(same(function(**values), told), name)
            self.assertTrue(same(function(**dict(list(values.items())[::-1])), told), name)
            if values:
                first, *more = values.items()
                self.assertTrue(same(function(first[1], **dict(more)), told), name)

    def test_whether_functions_return_bools(self):
        for function, name, _, values in self.each():
            if name.startswith(("is_", "does_")) or name.endswith(("_hold", "_holds")) or name == "holds_kind":
                self.assertIs(function(**values), True, name)
                if "thing" in values:
                    self.assertIs(function(**dict(values, thing=None)), False, name)


if __name__ == "__main__":
    unittest.main()
