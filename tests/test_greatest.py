"""[7.2], seats of [7.3], and greatest.py."""

import itertools
import unittest
from fractions import Fraction

from tests import helpers
from tests.helpers import Case, any_values, beside, bent, full_web, ring_web, seeded, zero_table
from withintwo.errors import BadKind, BadWeb, NotJoined
from withintwo.greatest import greatest, is_seat, is_seat_name

SIGNS = ((1, 1), (1, -1), (-1, -1))
T_NAMES = [("T", k) for k in range(3, 21)]
C_NAMES = [("C", k, s, t) for k in range(2, 21) for s, t in SIGNS]
S_NAMES = [("S", 7, 1), ("S", 7, -1), ("S", 8, 0), ("S", 8, 1), ("S", 14, 0), ("S", 16, 0)]
NAMES = T_NAMES + C_NAMES + S_NAMES
THREE = full_web(3)
PATH = ((0, 1, 0), (1, 0, 1), (0, 1, 0))
EIGHT = ((0, 1, 0, 0, 0, 1, 1, 1), (1, 0, 1, 0, 0, 0, 1, -1), (0, 1, 0, 1, 1, -1, 0, 0), (0, 0, 1, 1, 0, 1, -1, 0),
         (0, 0, 1, 0, -1, -1, 0, 1), (1, 0, -1, 1, -1, 0, 0, 0), (1, 1, 0, -1, 0, 0, -1, 0), (1, -1, 0, 0, 1, 0, 0, 1))


def is_name(thing):
    return type(thing) is tuple and thing in NAMES and all(type(item) is (str if at == 0 else int) for at, item in enumerate(thing))


def wrong_names():
    things = any_values() + bent(("T", 5)) + bent(("C", 3, 1, -1)) + bent(("S", 8, 1))
    things += [("T", k) for k in range(-1, 24)] + [("C", k, s, t) for k in (-1, 0, 1, 2, 20, 21) for s in (-2, -1, 0, 1, 2) for t in (-2, -1, 0, 1, 2)]
    things += [("S", k, s) for k in range(18) for s in (-2, -1, 0, 1, 2)]
    things += [("T",), ("T", 3, 1), ("C", 3), ("C", 3, 1), ("C", 3, 1, 1, 1), ("S", 7), ("S", 16), ("S", 7, 1, 0), ("t", 3), ("c", 3, 1, 1), ("s", 7, 1),
               ["T", 3], ("T", "3"), ("T", 3.0), ("C", 3, True, 1), ("C", 3, True, -1), ("C", 3, 1, True), ("S", 7, True), ("S", 8, False), ("S", 8, True),
               ("T", (3,)), (3, "T"), (("T",), 3), (None, 3), ("A", 3), ("D", 4), ("E", 8), ("", 3), ("TC", 3), ("C", 3, (1, 1)), ("S", 14, 1),
               ("S", 14, -1), ("S", 16, 1), ("T", None), ("T", True), ("C", True, 1, 1), "T3", {"T": 3}, ("S", (7, 1)), (("T", 3),)]
    return [thing for thing in things if not is_name(thing)]


def cube(turns):
    """The cube with signs, by its binary digits."""
    many = 2 ** turns
    rows = [[0] * many for _ in range(many)]
    for i in range(many):
        digits = f"{i:0{turns}b}"[::-1]
        for b in range(turns):
            if digits[b] == "0":
                rows[i][i + 2 ** b] = rows[i + 2 ** b][i] = (-1) ** digits[b + 1:].count("1")
    return rows


def greatest_by_hand(name):
    """The words of [7.2]."""
    seven = (-1, 1, 1, 0, 1, 0, 0)
    if name[0] == "S":
        many, mark = name[1:]
        if many == 7:
            rows = [[mark * seven[(i + j) % 7] for j in range(7)] for i in range(7)]
        elif name == ("S", 8, 0):
            rows = EIGHT
        elif many == 8:
            rows = cube(3)
            for i in range(8):
                rows[i][i] = 1 if bin(i).count("1") % 2 == 0 else -1
        elif many == 14:
            rows = [[0] * 14 for _ in range(14)]
            for i, j in itertools.product(range(7), repeat=2):
                rows[i][7 + j] = rows[7 + j][i] = seven[(i + j) % 7]
        else:
            rows = cube(4)
        return tuple(tuple(row) for row in rows)
    k = name[1]
    rows = [[0] * (2 * k) for _ in range(2 * k)]
    for column in range(k if name[0] == "T" else k - 1):
        behind = (column + 1) % k
        for first, second in itertools.product((0, 1), repeat=2):
            rows[2 * column + first][2 * behind + second] = rows[2 * behind + second][2 * column + first] = -1 if first else 1
    if name[0] == "C":
        s, t = name[2:]
        for i, j in itertools.product((0, 1), repeat=2):
            rows[i][j] = s
            rows[2 * k - 2 + i][2 * k - 2 + j] = t if i == j else -t
    return tuple(tuple(row) for row in rows)


def seat_right(table, thing):
    """The words of [7.3] about a seat."""
    if type(thing) is not tuple or len(thing) != 3 or not is_name(thing[0]):
        return False
    name, places, signs = thing
    seats = greatest_by_hand(name)
    many = len(table)
    if not helpers.are_ints(places, many) or not helpers.are_ints(signs, many) or len({*places}) < many:
        return False
    if not all(0 <= place < len(seats) for place in places) or not all(sign in (1, -1) for sign in signs):
        return False
    return all(table[i][j] == seats[places[i]][places[j]] * signs[i] * signs[j] for i in range(many) for j in range(many))


def joined_lot(rnd, seats, many):
    """So many places of a seat table that are joined with one another."""
    lot = [rnd.randrange(len(seats))]
    while len(lot) < many:
        near = [place for place in range(len(seats)) if place not in lot and any(seats[place][other] for other in lot)]
        lot.append(rnd.choice(near))
    return rnd.sample(lot, many)


def seats_with_webs(most):
    """Joined looped webs, each with a seat in one of the greatest tables."""
    rnd = seeded("seats with webs")
    found = []
    for name in NAMES:
        seats = greatest_by_hand(name)
        for many in (1, 2, rnd.randrange(3, most), most):
            many = min(many, len(seats))
            places = joined_lot(rnd, seats, many)
            signs = [rnd.choice((1, -1)) for _ in places]
            table = helpers.symmetric(many, lambda i, j: seats[places[i]][places[j]] * signs[i] * signs[j])
            found.append((table, (name, tuple(places), tuple(signs))))
    return found


class NameTests(Case):
    def test_is_seat_name(self):
        self.whether(False, is_seat_name, ("C", 2, -1, 1))
        for name in NAMES:
            self.whether(True, is_seat_name, name)
        for thing in wrong_names():
            self.whether(False, is_seat_name, thing)

    def test_wrong_names(self):
        for thing in wrong_names():
            self.raises(BadKind, thing, greatest, thing)


class GreatestTests(Case):
    def test_examples(self):
        self.same(greatest(("C", 2, 1, -1)), ((1, 1, 1, 1), (1, 1, -1, -1), (1, -1, -1, 1), (1, -1, 1, -1)))
        self.assertEqual(len(greatest(("S", 16, 0))), 16)
        self.same(greatest(("T", 3))[0], (0, 0, 1, 1, 1, -1))
        self.same(greatest(("T", 3))[1], (0, 0, -1, -1, 1, -1))
        self.same(greatest(("S", 7, -1))[0], (1, -1, -1, 0, -1, 0, 0))

    def test_tables(self):
        for name in NAMES:
            told = self.told(greatest, name)
            self.same(told, greatest_by_hand(name))
            self.assertEqual(len(told), 2 * name[1] if name[0] in "TC" else name[1])
            self.assertTrue(all(told[i][j] == told[j][i] and told[i][j] in (-1, 0, 1) for i in range(len(told)) for j in range(i + 1)))

    def test_images_of_images(self):
        rnd = seeded("images of images")
        for name in NAMES:
            seats = greatest(name)
            units = [tuple(int(i == k) for i in range(len(seats))) for k in range(len(seats))]
            for row in units + [tuple(rnd.randrange(-9, 10) for _ in seats)]:
                self.assertEqual(helpers.image(seats, helpers.image(seats, row)), tuple(4 * item for item in row))

    def test_joined_and_between(self):
        for name in NAMES:
            seats = greatest(name)
            self.assertEqual(len(helpers.parts_of(seats)), 1)
            self.assertTrue(all(sum(entry * entry for entry in row) == 4 for row in seats))
            if len(seats) <= 8:
                below, low, _ = helpers.inertia(seats, Fraction(-2))
                _, high, above = helpers.inertia(seats, Fraction(2))
                self.assertEqual((below, above, low + high), (0, 0, len(seats)))

    def test_loops(self):
        for name in NAMES:
            seats = greatest(name)
            loops = [seats[i][i] for i in range(len(seats))]
            wanted = {"T": 0, "C": 0 if name[0] != "C" else 2 * (name[2] + name[3])}.get(name[0])
            if wanted is not None:
                self.assertEqual(sum(loops), wanted)
        self.same([sum(greatest(name)[i][i] for i in range(name[1])) for name in S_NAMES], [2, -2, 0, 0, 0, 0])


class SeatTests(Case):
    def check(self, table, thing, wanted=None):
        right = seat_right(table, thing)
        if wanted is not None:
            self.assertIs(right, wanted, (table, thing))
        self.whether(right, is_seat, table, thing)

    def test_examples(self):
        self.check(THREE, (("T", 3), (0, 2, 4), (1, 1, 1)), True)
        self.check(THREE, (("T", 3), (2, 4, 0), (-1, -1, -1)), True)
        self.check(THREE, (("T", 3), (0, 2, 4), (1, 1, -1)), False)
        self.check(THREE, (("T", 4), (0, 2, 4), (1, 1, 1)), False)
        self.check(((0,),), (("T", 20), (39,), (-1,)), True)
        self.check(((0,),), (("T", 20), (40,), (-1,)), False)
        self.check(((0,),), (("T", 20), (-1,), (-1,)), False)
        self.check(((1,),), (("C", 2, 1, -1), (1,), (-1,)), True)
        self.check(((1,),), (("C", 2, 1, -1), (2,), (-1,)), False)

    def test_seats(self):
        rnd = seeded("right seats")
        for table, seat in seats_with_webs(8):
            self.check(table, seat, True)
            name, places, signs = seat
            self.check(table, (name, places, tuple(-sign for sign in signs)), True)
            at = rnd.randrange(len(table))
            flipped = signs[:at] + (-signs[at],) + signs[at + 1:]
            self.check(table, (name, places, flipped), len(table) == 1)
            self.check(table, (name, places[::-1], signs))
            self.check(table, (name, places[1:] + places[:1], signs))
            self.check(table, (rnd.choice(NAMES), places, signs))
            self.check(table, (name, places + (0,), signs + (1,)), False)
            self.check(table, (name, places[:-1], signs[:-1]), False)

    def test_repeated_places(self):
        # In C the places of column 0 have equal entries with one another and with themselves.
        ones = ((1, 1), (1, 1))
        self.check(ones, (("C", 2, 1, 1), (0, 1), (1, 1)), True)
        self.check(ones, (("C", 2, 1, 1), (0, 0), (1, 1)), False)
        self.check(ones, (("C", 2, 1, 1), (1, 1), (-1, -1)), False)
        self.check(((1, -1), (-1, 1)), (("C", 9, 1, 1), (16, 17), (1, 1)), True)
        self.check(((1, -1), (-1, 1)), (("C", 9, 1, 1), (1, 0), (-1, 1)), True)

    def test_changed_tables(self):
        rnd = seeded("changed tables")
        for table, seat in seats_with_webs(6)[::5]:
            for i in range(len(table)):
                for j in range(i + 1):
                    rows = [list(row) for row in table]
                    rows[i][j] = rows[j][i] = rnd.choice([entry for entry in (-1, 0, 1) if entry != table[i][j]])
                    changed = tuple(tuple(row) for row in rows)
                    if len(helpers.parts_of(changed)) == 1:
                        self.check(changed, seat, False)

    def test_all_seats_of_three_places(self):
        for name in (("T", 3), ("C", 2, 1, -1), ("S", 7, 1)):
            for table in (THREE, full_web(3, -1), PATH, ((1, 1, 0), (1, 0, 1), (0, 1, 0))):
                for places in itertools.product(range(7), repeat=3):
                    thing = (name, places, (1, -1, 1))
                    self.assertIs(is_seat(table, thing), seat_right(table, thing), (table, thing))

    def test_any_value(self):
        for table, seat in ((((0,),), (("T", 3), (0,), (1,))), (((1,),), (("C", 2, 1, 1), (0,), (1,))), (THREE, (("T", 3), (0, 2, 4), (1, 1, 1))),
                            (PATH, (("S", 8, 0), (0, 1, 2), (1, 1, 1)))):
            self.check(table, seat, True)
            name, places, signs = seat
            things = any_values() + bent(seat)
            things += [(list(name), places, signs), (name, list(places), signs), (name, places, list(signs)), list(seat), seat + ((),), (seat,),
                       (name, tuple(map(bool, places)), signs), (name, places, tuple(map(bool, signs))), (name, places, (0,) * len(table)),
                       (name, places, (2,) * len(table)), (name, signs, places), (places, name, signs), (name, (10 ** 99,) * len(table), signs),
                       (("T", 2), places, signs), (("T", 21), places, signs), (None, places, signs), (name, None, signs), (name, places, None)]
            for thing in things:
                self.assertIs(is_seat(table, thing), seat_right(table, thing), (table, thing))

    def test_errors(self):
        seat = (("T", 3), (0, 2, 4), (1, 1, 1))
        things = any_values() + bent(PATH) + [((2,),), ((0, 2), (2, 0)), ((-2,),), zero_table(13), ((0, True), (True, 0)), ((0, 1), (-1, 0)), ((True,),)]
        for wrong in things:
            if not helpers.is_looped_web(wrong):
                self.raises(BadWeb, wrong, is_seat, wrong, seat)
                self.raises(BadWeb, wrong, is_seat, wrong, None)
        for table in (zero_table(2), zero_table(12), beside(THREE, ((1,),)), beside(((1,),), ((-1,),)), beside(ring_web(4), ring_web(4, -1))):
            for thing in (seat, None, (("T", 3), (0, 1), (1, 1))):
                error = self.raised(is_seat, table, thing)
                self.assertIs(type(error), NotJoined)
                self.assertEqual(vars(error), {})


if __name__ == "__main__":
    unittest.main()
