"""[1.1] to [1.3] and tables.py."""

import unittest

from tests import helpers
from tests.helpers import (Case, any_values, bent, full_web, random_signed, random_table, ring_web, seeded, star_web,
                           symmetric, zero_table)
from withintwo.errors import BadLot, BadPlace, BadRow, BadTable
from withintwo.tables import (beside, image_of, is_joined, is_looped_web, is_lot, is_row, is_signed_web, is_table,
                              is_web, neighbours, opposite, parts_of, square_of, weight_of, within)

PATH = ((0, 1, 0), (1, 0, 1), (0, 1, 0))
LOOPED = ((1, -1, 0), (-1, 0, 1), (0, 1, -1))
GREAT = symmetric(3, lambda i, j: (-1) ** j * (10 ** 20 - 1 - i))


def some_tables():
    rnd = seeded("tables")
    found = [((0,),), ((5,),), ((-1,),), PATH, LOOPED, GREAT, zero_table(12), full_web(12), ring_web(7, -1), star_web(4)]
    for many in range(1, 13):
        found += [random_table(rnd, many, 10 ** rnd.choice((0, 1, 20)) - 1 + rnd.randrange(2)) for _ in range(2)]
        found += [random_signed(rnd, many, part) for part in (1, 2, 4)]
    return found


TABLES = some_tables()
WRONG = [thing for thing in any_values() + bent(PATH) + bent(((0, 2), (2, 1))) if not helpers.is_table(thing)]


class KindTests(Case):
    KINDS = [(is_table, helpers.is_table), (is_looped_web, helpers.is_looped_web),
             (is_signed_web, helpers.is_signed_web), (is_web, helpers.is_web)]

    def test_any_value(self):
        things = any_values() + TABLES
        for table in (PATH, LOOPED, ((0,),), ((1, 1), (1, 1)), ((0, -1), (-1, 0)), ((3, 4), (4, -5))):
            things += bent(table)
        for thing in things:
            for function, wanted in self.KINDS:
                self.whether(wanted(thing), function, thing)

    def test_numbers_of_places(self):
        for many in range(1, 13):
            for function, _ in self.KINDS:
                self.whether(True, function, zero_table(many))
                self.whether(True, function, full_web(many))
        for many in (0, 13, 14, 40):
            for function, _ in self.KINDS:
                self.whether(False, function, zero_table(many))

    def test_entries(self):
        for entry in range(-3, 4):
            for table in (((0, entry), (entry, 0)), ((entry,),), ((0, 0), (0, entry))):
                for function, wanted in self.KINDS:
                    self.whether(wanted(table), function, table)
        self.whether(True, is_table, ((10 ** 20 - 1, -10 ** 19), (-10 ** 19, 0)))
        self.whether(False, is_looped_web, ((0, 2), (2, 0)))
        self.whether(False, is_looped_web, ((-2,),))
        self.whether(True, is_looped_web, ((1, -1), (-1, -1)))
        self.whether(False, is_signed_web, ((0, 1), (1, -1)))
        self.whether(True, is_signed_web, ((0, -1), (-1, 0)))
        self.whether(False, is_web, ((0, -1), (-1, 0)))

    def test_entries_are_equal_both_ways(self):
        for i in range(12):
            for j in range(12):
                if i != j:
                    rows = [[0] * 12 for _ in range(12)]
                    rows[i][j] = 1
                    thing = tuple(tuple(row) for row in rows)
                    for function, _ in self.KINDS:
                        self.whether(False, function, thing)

    def test_a_bool_in_any_position(self):
        for i in range(3):
            for j in range(3):
                rows = [list(row) for row in PATH]
                rows[i][j] = bool(rows[i][j])
                thing = tuple(tuple(row) for row in rows)
                for function, _ in self.KINDS:
                    self.whether(False, function, thing)


class LotAndRowTests(Case):
    def test_lots(self):
        for table in (((0,),), PATH, zero_table(4), full_web(12)):
            many = len(table)
            things = any_values() + [(), (0,), (many - 1,), (many,), (-1,), tuple(range(many)), tuple(range(many + 1)),
                                     (0, 0), (1, 0), (0, 2), (2, 0), (0, 2, 1), (0, many - 1), (0, True), (False,)]
            things += bent(tuple(range(min(many, 4))))
            for thing in things:
                self.whether(helpers.is_lot(table, thing), is_lot, table, thing)
        self.whether(True, is_lot, PATH, ())
        self.whether(True, is_lot, zero_table(12), (0, 11))
        self.whether(False, is_lot, zero_table(12), (0, 12))

    def test_rows(self):
        for table in (((0,),), PATH, zero_table(2), full_web(12)):
            many = len(table)
            things = any_values() + [(0,) * many, (1,) * (many + 1), (1,) * (many - 1), [1] * many, (True,) * many,
                                     (10 ** 30 - 1,) * many, (-5,) * many, ("1",) * many, (None,) * many]
            things += bent(tuple(range(many)))
            for thing in things:
                self.whether(helpers.is_row(table, thing), is_row, table, thing)

    def test_bad_tables(self):
        for wrong in WRONG:
            for function in (is_lot, is_row):
                self.raises(BadTable, wrong, function, wrong, (0,))
                self.raises(BadTable, wrong, function, wrong, None)


class PartTests(Case):
    def test_neighbours(self):
        self.same(neighbours(PATH, 1), (0, 2))
        self.same(neighbours(PATH, 0), (1,))
        self.same(neighbours(LOOPED, 0), (1,))
        self.same(neighbours(((5,),), 0), ())
        self.same(neighbours(((1, -7, 0), (-7, 1, 10 ** 20), (0, 10 ** 20, 1)), 1), (0, 2))
        for table in TABLES:
            for place in range(len(table)):
                wanted = tuple(k for k in range(len(table)) if k != place and table[place][k] != 0)
                self.same(self.told(neighbours, table, place), wanted)

    def test_bad_places(self):
        for table in (((0,),), PATH, full_web(12)):
            for thing in any_values() + [len(table), -1, len(table) - 1, -len(table)]:
                if helpers.is_int(thing) and 0 <= thing < len(table):
                    self.assertIs(type(neighbours(table, thing)), tuple)
                else:
                    self.raises(BadPlace, thing, neighbours, table, thing)
        for wrong in WRONG:
            self.raises(BadTable, wrong, neighbours, wrong, 0)
            self.raises(BadTable, wrong, neighbours, wrong, None)

    def test_parts(self):
        self.same(parts_of(((0,),)), ((0,),))
        self.same(parts_of(zero_table(12)), tuple((k,) for k in range(12)))
        self.same(parts_of(((1, 0), (0, 1))), ((0,), (1,)))
        self.same(parts_of(helpers.web(5, [(0, 3), (3, 1), (2, 4)])), ((0, 1, 3), (2, 4)))
        # A chain through later places joins earlier ones.
        self.same(parts_of(helpers.web(6, [(0, 5), (5, 1), (2, 4)], -3)), ((0, 1, 5), (2, 4), (3,)))
        for table in TABLES:
            wanted = helpers.parts_of(table)
            self.same(self.told(parts_of, table), wanted)
            self.whether(len(wanted) == 1, is_joined, table)

    def test_joined(self):
        self.whether(True, is_joined, ((0,),))
        self.whether(True, is_joined, PATH)
        self.whether(False, is_joined, zero_table(2))
        self.whether(False, is_joined, ((1, 0), (0, 1)))
        for wrong in WRONG:
            self.raises(BadTable, wrong, parts_of, wrong)
            self.raises(BadTable, wrong, is_joined, wrong)

    def test_within(self):
        self.same(within(PATH, (0, 2)), ((0, 0), (0, 0)))
        self.same(within(LOOPED, (2,)), ((-1,),))
        rnd = seeded("within")
        for table in TABLES:
            for _ in range(4):
                lot = tuple(sorted(rnd.sample(range(len(table)), rnd.randint(1, len(table)))))
                self.same(self.told(within, table, lot), helpers.within(table, lot))
            self.same(within(table, tuple(range(len(table)))), table)

    def test_bad_lots(self):
        self.raises(BadLot, (), within, PATH, ())
        for thing in any_values() + bent((0, 2)) + [(3,), (-1,), (0, 3), (2, 0), (1, 1)]:
            if helpers.is_lot(PATH, thing) and thing != ():
                self.same(within(PATH, thing), helpers.within(PATH, thing))
            else:
                self.raises(BadLot, thing, within, PATH, thing)
        for wrong in WRONG:
            self.raises(BadTable, wrong, within, wrong, (0,))
            self.raises(BadTable, wrong, within, wrong, ())

    def test_beside(self):
        self.same(beside(PATH, ((1,),)), ((0, 1, 0, 0), (1, 0, 1, 0), (0, 1, 0, 0), (0, 0, 0, 1)))
        self.same(beside(((1,),), PATH), ((1, 0, 0, 0), (0, 0, 1, 0), (0, 1, 0, 1), (0, 0, 1, 0)))
        for one in TABLES:
            for other in TABLES:
                if len(one) + len(other) <= 12:
                    self.same(beside(one, other), helpers.beside(one, other))

    def test_beside_with_too_many_places(self):
        for one in range(1, 13):
            for other in range(1, 13):
                tables = (full_web(one), full_web(other, -1))
                if one + other > 12:
                    self.raises(BadTable, tables[1], beside, *tables)
                else:
                    self.same(beside(*tables), helpers.beside(*tables))

    def test_beside_with_what_is_no_table(self):
        for wrong in WRONG:
            self.raises(BadTable, wrong, beside, wrong, PATH)
            self.raises(BadTable, wrong, beside, PATH, wrong)
            self.raises(BadTable, wrong, beside, full_web(12), wrong)
            self.raises(BadTable, wrong, beside, wrong, full_web(12))
            self.raises(BadTable, wrong, beside, wrong, None)
            self.raises(BadTable, [], beside, [], wrong)


class WeightTests(Case):
    def rows(self, rnd, many):
        yield (0,) * many
        yield (1,) * many
        yield tuple((-1) ** k for k in range(many))
        for digits in (1, 2, 30):
            for _ in range(3):
                yield tuple(rnd.randint(1 - 10 ** digits, 10 ** digits - 1) for _ in range(many))

    def test_squares(self):
        self.same(square_of(()), 0)
        self.same(square_of((0,)), 0)
        self.same(square_of((1, -1, 1)), 3)
        self.same(square_of((-3, 4)), 25)
        self.same(square_of((10 ** 29, -(10 ** 30 - 1))), 10 ** 58 + (10 ** 30 - 1) ** 2)
        self.same(square_of((2,) * 40), 160)
        for thing in any_values() + bent((1, -2, 3)):
            if helpers.are_ints(thing):
                self.same(self.told(square_of, thing), helpers.square(thing))
            else:
                self.raises(BadRow, thing, square_of, thing)

    def test_weights_and_images(self):
        self.same(weight_of(PATH, (1, -1, 1)), -4)
        self.same(image_of(PATH, (1, -1, 1)), (-1, 2, -1))
        self.same(weight_of(((3, 2), (2, -1)), (1, 1)), 6)
        self.same(weight_of(((3, 2), (2, -1)), (1, -2)), 3 - 8 - 4)
        self.same(image_of(((3, 2), (2, -1)), (1, -2)), (-1, 4))
        rnd = seeded("weights")
        for table in TABLES:
            for row in self.rows(rnd, len(table)):
                self.same(self.told(weight_of, table, row), helpers.weight(table, row))
                self.same(self.told(image_of, table, row), helpers.image(table, row))

    def test_bad_tables_and_rows(self):
        for function in (weight_of, image_of):
            for wrong in WRONG:
                self.raises(BadTable, wrong, function, wrong, (0,))
                self.raises(BadTable, wrong, function, wrong, None)
            for table, row in ((PATH, (1, -1, 1)), (((7,),), (2,)), (full_web(12), (1,) * 12)):
                for thing in any_values() + bent(row):
                    if not helpers.is_row(table, thing):
                        self.raises(BadRow, thing, function, table, thing)
                    else:
                        function(table, thing)

    def test_opposites(self):
        self.same(opposite(((0, 1), (1, -3))), ((0, -1), (-1, 3)))
        for table in TABLES:
            wanted = tuple(tuple(-entry for entry in row) for row in table)
            self.same(self.told(opposite, table), wanted)
            self.same(opposite(wanted), table)
        for wrong in WRONG:
            self.raises(BadTable, wrong, opposite, wrong)


if __name__ == "__main__":
    unittest.main()
