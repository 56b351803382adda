"""Plain definitions, written apart from the program, with which the tests compare it."""

import copy
import itertools
import random
import unittest
from fractions import Fraction


# ---------------------------------------------------------------- any values

def nested(depth):
    thing = 1
    for _ in range(depth):
        thing = (thing,)
    return thing


def any_values():
    """Values of all the kinds that "any value" allows."""
    from withintwo.workshops import Workshop
    shop = Workshop(((0, 1), (1, 0)))
    return [
        shop, (shop,), [shop], ((shop,),), (0, shop), (shop, shop), ("low", shop), ("rows", (shop,)), {"low": shop}, ("come", shop),
        None, True, False, 0, 1, -1, 2, 7, -(10 ** 99), 10 ** 99, "", "a", "0", "table 1\n0", " ~\n" * 600, "x" * 2000,
        (), [], {}, (0,), (1,), [0], [[0]], ((),), ((0,),), ([0],), [(0,)], ((True,),), ((False,),), (("0",),),
        ((None,),), (None,), (True,), (False,), ("a",), ({},), ([],), {0: 0}, {"a": (1, [2])}, (0, 0), (0, 1), (1, 0),
        (1, 1), (2, 1), (1, True), (True, 1), (1, "1"), (0, 0, 0), (0, 1, 2), (-1, 0, 1), ((0, 1), (1, 0)),
        ((0, 1), (2, 0)), ((0, 1), (1,)), ((0,), (1, 0)), ((0, 1),), ((0, 1), [1, 0]), ((0, True), (True, 0)),
        ((0, False), (False, 0)), ((0, 1), (1, 0), (0, 0)), nested(12), [nested(11)], tuple(range(3000)), (0,) * 3000,
        ((0,) * 13,) * 13, ((0,) * 12,) * 13, ((0,) * 3000,), [0] * 3000, {k: k for k in range(1000)},
        ("signs", (1, 1)), ("pair", 0, 1), ("ring", (0, 1, 2)), ("squares", ()), ("low", (1, 1)), ("high", (1, 1)),
        ("signs",), ("squares",), ("low",), ["squares", ()], "squares", ("squares", (), ()), ("low", (1, 1), 0),
        ((0, 1), (1, 1)), ((1, 0), (1, -1)), (((1, 1), (1, 1)),), ((((1, 1), (1, 1)),),),
    ]


ODD_PARTS = [True, False, None, 0, 1, -1, 2, 3, 12, 13, "x", "1", "signs", (), [], {}, (0,), (1, 1), [0], [1, 1], (True,)]


def bent(thing, parts=ODD_PARTS):
    """The thing with parts replaced by other values, left out, repeated or exchanged, one bend each."""
    found = list(parts)
    if isinstance(thing, int):
        found += [thing + 1, thing - 1, -thing, [thing], (thing,), str(thing), bool(thing)]
    if isinstance(thing, str):
        found += [thing + " ", thing[:-1], thing.upper(), [thing], (thing,)]
    if isinstance(thing, tuple):
        found += [list(thing), (thing,), thing + thing[-1:], thing[:-1], thing[1:], thing[:1] + thing, thing[::-1],
                  thing + (0,), (0,) + thing, thing + thing, thing + (None,), dict(enumerate(thing))]
        for at in range(len(thing)):
            found.append(thing[:at] + thing[at + 1:])
            found.append(thing[:at] + (thing[at], thing[at]) + thing[at + 1:])
            for other in range(at):
                items = list(thing)
                items[at], items[other] = items[other], items[at]
                found.append(tuple(items))
            for item in bent(thing[at], parts):
                found.append(thing[:at] + (item,) + thing[at + 1:])
    return found


def same(one, other):
    """Whether two values are equal, and of the same kinds throughout (True is not 1, a list no tuple)."""
    if type(one) is not type(other):
        return False
    if isinstance(one, (tuple, list)):
        return len(one) == len(other) and all(same(x, y) for x, y in zip(one, other))
    return one == other


def is_int(thing):
    return type(thing) is int


def are_ints(thing, many=None):
    return type(thing) is tuple and all(is_int(item) for item in thing) and (many is None or len(thing) == many)


# ---------------------------------------------------------------- tables

def is_table(thing):
    if type(thing) is not tuple or len(thing) < 1 or len(thing) > 12:
        return False
    for row in thing:
        if not are_ints(row, len(thing)):
            return False
    return all(thing[i][j] == thing[j][i] for i in range(len(thing)) for j in range(len(thing)))


def is_looped_web(thing):
    return is_table(thing) and all(entry in (-1, 0, 1) for row in thing for entry in row)


def is_signed_web(thing):
    return is_looped_web(thing) and all(thing[i][i] == 0 for i in range(len(thing)))


def is_web(thing):
    return is_signed_web(thing) and all(entry in (0, 1) for row in thing for entry in row)


def is_lot(table, thing):
    return are_ints(thing) and list(thing) == sorted({*thing}) and all(0 <= place < len(table) for place in thing)


def is_row(table, thing):
    return are_ints(thing, len(table))


def is_turning(table, thing):
    if type(thing) is not tuple or len(thing) != 2 or not is_row(table, thing[0]) or not is_row(table, thing[1]):
        return False
    return sorted(thing[0]) == list(range(len(table))) and all(sign in (1, -1) for sign in thing[1])


def is_ring(table, thing):
    if not are_ints(thing) or len(thing) < 3 or len({*thing}) != len(thing):
        return False
    if min(thing) < 0 or max(thing) >= len(table):
        return False
    return all(table[thing[at - 1]][thing[at]] != 0 for at in range(len(thing)))


def is_fraction(thing):
    return are_ints(thing, 2) and thing[1] >= 1


def symmetric(many, told):
    """The table whose entry of i and j, i at least j, is told(i, j)."""
    rows = [[0] * many for _ in range(many)]
    for i in range(many):
        for j in range(i + 1):
            rows[i][j] = rows[j][i] = told(i, j)
    return tuple(tuple(row) for row in rows)


def random_table(rnd, many, top):
    return symmetric(many, lambda i, j: rnd.randint(-top, top))


def random_signed(rnd, many, part=2):
    """A signed web; about one of part pairs is tied."""
    return symmetric(many, lambda i, j: 0 if i == j or rnd.randrange(part) else rnd.choice((1, -1)))


def web(many, ties, entry=1):
    tied = {tuple(sorted(tie)) for tie in ties}
    return symmetric(many, lambda i, j: entry if (j, i) in tied and i != j else 0)


def ring_web(many, last=1):
    """The web of a ring; the entry between its last place and its first one can be told."""
    rows = [list(row) for row in web(many, [(k, k + 1) for k in range(many - 1)])]
    rows[0][many - 1] = rows[many - 1][0] = last
    return tuple(tuple(row) for row in rows)


def full_web(many, entry=1):
    return symmetric(many, lambda i, j: 0 if i == j else entry)


def star_web(leaves, entry=1):
    return web(leaves + 1, [(0, k) for k in range(1, leaves + 1)], entry)


def zero_table(many):
    return symmetric(many, lambda i, j: 0)


def kind_table(letter, rank):
    """The kind table of [3.4]."""
    if letter == "A":
        ties = [(k, k + 1) for k in range(rank - 1)]
    elif letter == "D":
        ties = [(k, k + 1) for k in range(rank - 2)] + [(rank - 3, rank - 1)]
    else:
        ties = [(k, k + 1) for k in range(rank - 2)] + [(2, rank - 1)]
    return web(rank, ties, -1)


def random_turning(rnd, many):
    names = list(range(many))
    rnd.shuffle(names)
    return (tuple(names), tuple(rnd.choice((1, -1)) for _ in range(many)))


def led(table, turning):
    names, signs = turning
    many = len(table)
    rows = [[None] * many for _ in range(many)]
    for i in range(many):
        for j in range(many):
            rows[names[i]][names[j]] = signs[i] * signs[j] * table[i][j]
    return tuple(tuple(row) for row in rows)


def row_led(turning, row):
    names, signs = turning
    items = [None] * len(row)
    for i in range(len(row)):
        items[names[i]] = signs[i] * row[i]
    return tuple(items)


def within(table, lot):
    return tuple(tuple(table[i][j] for j in lot) for i in lot)


def beside(*tables):
    many = sum(len(table) for table in tables)
    rows = [[0] * many for _ in range(many)]
    start = 0
    for table in tables:
        for i in range(len(table)):
            for j in range(len(table)):
                rows[start + i][start + j] = table[i][j]
        start += len(table)
    return tuple(tuple(row) for row in rows)


def parts_of(table):
    """The parts, by merging."""
    many = len(table)
    label = list(range(many))
    for i in range(many):
        for j in range(many):
            if table[i][j] != 0:
                old, new = label[i], label[j]
                label = [new if item == old else item for item in label]
    return tuple(sorted(tuple(i for i in range(many) if label[i] == name) for name in {*label}))


def weight(table, row):
    total = 0
    for i in range(len(table)):
        for j in range(len(table)):
            total += table[i][j] * row[i] * row[j]
    return total


def square(row):
    return sum(item ** 2 for item in row)


def image(table, row):
    return tuple(sum(table[i][j] * row[j] for j in range(len(table))) for i in range(len(table)))


def multiplied(one, other):
    many = len(one)
    return [[sum(one[i][k] * other[k][j] for k in range(many)) for j in range(many)] for i in range(many)]


# ---------------------------------------------------------------- linear algebra over fractions

def rank(rows):
    rows = [[Fraction(item) for item in row] for row in rows]
    found = 0
    for column in range(len(rows[0]) if rows else 0):
        pivots = [at for at in range(found, len(rows)) if rows[at][column] != 0]
        if not pivots:
            continue
        rows[found], rows[pivots[0]] = rows[pivots[0]], rows[found]
        for at in range(found + 1, len(rows)):
            share = rows[at][column] / rows[found][column]
            rows[at] = [x - share * y for x, y in zip(rows[at], rows[found])]
        found += 1
    return found


def determinant(rows):
    rows = [[Fraction(item) for item in row] for row in rows]
    many, found = len(rows), Fraction(1)
    for column in range(many):
        pivots = [at for at in range(column, many) if rows[at][column] != 0]
        if not pivots:
            return Fraction(0)
        if pivots[0] != column:
            rows[column], rows[pivots[0]] = rows[pivots[0]], rows[column]
            found = -found
        found *= rows[column][column]
        for at in range(column + 1, many):
            share = rows[at][column] / rows[column][column]
            rows[at] = [x - share * y for x, y in zip(rows[at], rows[column])]
    return found


def less(table, number):
    """The table less a Fraction on the diagonal."""
    return [[Fraction(table[i][j]) - (number if i == j else 0) for j in range(len(table))] for i in range(len(table))]


def inertia(table, number):
    """How many values are below, at and above a Fraction, by congruence."""
    rows = less(table, number)
    many = len(rows)
    below = above = 0
    live = list(range(many))
    while live:
        pivot = next((i for i in live if rows[i][i] != 0), None)
        if pivot is None:
            pair = next(((i, j) for i in live for j in live if rows[i][j] != 0), None)
            if pair is None:
                break
            # Adding one row and column to another one makes an entry on the diagonal.
            i, j = pair
            for k in live:
                rows[i][k] += rows[j][k]
            for k in live:
                rows[k][i] += rows[k][j]
            pivot = i
        worth = rows[pivot][pivot]
        below, above = below + (worth < 0), above + (worth > 0)
        live.remove(pivot)
        for i in live:
            share = rows[i][pivot] / worth
            for j in live:
                rows[i][j] -= share * rows[pivot][j]
    return (below, many - below - above, above)


def is_good(thing):
    """Whether any value is a signed web that weighs no row below -2 times its square."""
    return is_signed_web(thing) and inertia(thing, Fraction(-2))[0] == 0


def is_low_row(table, thing):
    """Whether any value is a row that a table weighs below -2 times its square."""
    return is_row(table, thing) and weight(table, thing) < -2 * square(thing)


# ---------------------------------------------------------------- tests

class Case(unittest.TestCase):
    """What most tests need beside the methods of unittest."""

    def same(self, told, wanted, note=None):
        self.assertTrue(same(told, wanted), f"{told!r:.300} is not {wanted!r:.300} ({note!r:.300})")

    def told(self, function, *arguments):
        """What a call returns; it changes no argument, and the same call returns the same again."""
        before = copy.deepcopy(arguments)
        told = function(*arguments)
        self.assertTrue(same(arguments, before), function)
        self.same(function(*arguments), told, arguments)
        return told

    def whether(self, wanted, function, *arguments):
        told = self.told(function, *arguments)
        self.assertIs(told, bool(wanted), f"{function.__name__}{arguments!r:.600}")

    def raised(self, function, *arguments):
        """The error that a call raises; it changes no argument, and the same call raises the same again."""
        from withintwo.errors import TableError
        before = copy.deepcopy(arguments)
        errors = []
        for _ in range(2):
            try:
                told = function(*arguments)
            except TableError as error:
                errors.append(error)
            else:
                self.fail(f"{function.__name__}{arguments!r:.600} returned {told!r:.300}")
        self.assertTrue(same(arguments, before), function)
        self.assertIs(type(errors[0]), type(errors[1]))
        self.assertEqual(vars(errors[0]), vars(errors[1]))
        return errors[0]

    def raises(self, wanted, thing, function, *arguments):
        """The call raises the error, whose attribute thing is the very value."""
        error = self.raised(function, *arguments)
        self.assertIs(type(error), wanted, f"{function.__name__}{arguments!r:.600}")
        self.same(error.thing, thing, arguments)


    def too_low(self, table, function, *arguments):
        """The call raises TooLow with a row that the table weighs too low, of integers that are not too long."""
        from withintwo.errors import TooLow
        error = self.raised(function, table, *arguments)
        self.assertIs(type(error), TooLow, f"{function.__name__}{arguments!r:.600}")
        self.assertTrue(is_low_row(table, error.row), (table, error.row))
        self.assertTrue(all(abs(item) < 10 ** 1000 for item in error.row))


def seeded(name):
    return random.Random(f"withintwo {name}")


def all_signs(many):
    return itertools.product((1, -1), repeat=many)
