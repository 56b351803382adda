"""[3.4] to [3.6] and kinds.py."""

import itertools
import math
import unittest

from tests import helpers
from tests.helpers import (Case, any_values, beside, bent, full_web, kind_table as table_by_hand, random_signed, random_turning,
                           ring_web, seeded, star_web, zero_table)
from tests.test_roots import (GOOD, GREAT, LOW, PATH, PETERSEN, RINGED_E6, RINGED_E7, RINGED_E8, TRIANGLE, TWO, all_roots,
                              base_among, product_table, wrong_webs)
from withintwo.errors import BadKind, BadWeb
from withintwo.kinds import holds_kind, is_kind, kind_table, kinds_of, many_bases, many_roots, root_rows
from withintwo.roots import base_of, rank_of, roots_of

KINDS = [("A", m) for m in range(1, 13)] + [("D", m) for m in range(4, 13)] + [("E", m) for m in (6, 7, 8)]
BESIDE = [("A", 0), ("A", -1), ("A", 13), ("D", 1), ("D", 2), ("D", 3), ("D", 13), ("E", 4), ("E", 5), ("E", 9), ("E", 12), ("B", 4),
          ("C", 4), ("F", 4), ("G", 2), ("a", 1), ("d", 4), ("e", 6), ("AD", 4), ("", 4), ("A ", 4), ("A+", 4), ("A", True),
          ("A", "4"), ("A", None), (1, "A"), ("A", (4,)), (("A",), 4), (["A"], 4), ("A", [4]), ("A",), ("A", 4, 4), ["A", 4], "A4",
          {"A": 4}, (("A", 4),), ("A", 10 ** 99), ("D", -4)]
WRONG_KINDS = BESIDE + [thing for thing in any_values() + bent(("D", 5)) + bent(("E", 6)) if thing not in KINDS]


def kind_by_base(table):
    """The kind of a joined good signed web by the ways that lead away from the place of its base with three ties."""
    roots = all_roots(table)
    base = base_among(roots)
    tied = [[sum(x * y for x, y in zip(roots[one], other)) == -1 for other in base] for one in base]
    branches = [at for at, row in enumerate(tied) if sum(row) > 2]
    if not branches:
        return ("A", len(base))
    arms = []
    for start in range(len(base)):
        if tied[branches[0]][start]:
            arm = [branches[0], start]
            while more := [at for at in range(len(base)) if tied[arm[-1]][at] and at not in arm]:
                arm += more
            arms.append(len(arm) - 1)
    return ("D" if sorted(arms)[:2] == [1, 1] else "E", len(base))


def rows_by_hand(kind):
    """The root rows of a kind, as [3.5] tells them."""
    letter, rank = kind
    many = {"A": rank + 1, "D": rank, "E": 8}[letter]
    found = []
    for i, j in itertools.permutations(range(many), 2):
        for left, right in itertools.product((2, -2), repeat=2):
            if letter != "A" or left == -right:
                found.append(tuple(left if k == i else right if k == j else 0 for k in range(many)))
    if letter == "E":
        found += [row for row in itertools.product((1, -1), repeat=8) if math.prod(row) == 1]
    if kind in (("E", 7), ("E", 6)):
        found = [row for row in found if row[-1] == -row[-2]]
    if kind == ("E", 6):
        found = [row for row in found if row[5] == row[6]]
    return tuple(sorted(set(found)))


def product(one, other):
    total = sum(x * y for x, y in zip(one, other))
    assert total % 4 == 0
    return total // 4


def held_by_hand(one, other):
    """The words of [3.6]."""
    (letter, k), (held, m) = one, other
    if letter == "A":
        return held == "A" and m <= k
    if letter == "D":
        return (held == "A" and m < k) or (held == "D" and m <= k)
    most = {6: {"A": 5, "D": 5}, 7: {"A": 7, "D": 6}, 8: {"A": 8, "D": 8}}[k]
    return m <= k if held == "E" else m <= most[held]


def are_found(told, table, found=()):
    """Whether some of the rows have the entries of a table as products; any row can be the first one.

    told tells for each row, by its products, the sets of the numbers of the rows with these.
    """
    if len(found) == len(table):
        return True
    if not found:
        return are_found(told, table, (0,))
    sets = [told[elder].get(table[len(found)][at], set()) for at, elder in enumerate(found)]
    return any(are_found(told, table, found + (row,)) for row in set.intersection(*sets))


def products_of_rows(rows):
    told = []
    for row in rows:
        told.append({})
        for at, other in enumerate(rows):
            told[-1].setdefault(product(row, other), set()).add(at)
    return told


def is_base(rows, lot):
    """Whether each row or its opposite is a sum of rows of a lot of independent ones, perhaps with repeats."""
    reached, waiting = set(lot), list(lot)
    while waiting:
        row = waiting.pop()
        for step in lot:
            more = tuple(x + y for x, y in zip(row, step))
            if more in rows and more not in reached:
                reached.add(more)
                waiting.append(more)
    return len(reached) * 2 == len(rows) and all(tuple(-x for x in row) not in reached for row in reached)


class KindTests(Case):
    def test_is_kind(self):
        for kind in KINDS:
            self.whether(True, is_kind, kind)
        for thing in WRONG_KINDS:
            self.whether(False, is_kind, thing)

    def test_kind_tables(self):
        self.same(kind_table(("A", 1)), ((0,),))
        self.same(kind_table(("A", 3)), ((0, -1, 0), (-1, 0, -1), (0, -1, 0)))
        self.same(kind_table(("D", 4)), ((0, -1, 0, 0), (-1, 0, -1, -1), (0, -1, 0, 0), (0, -1, 0, 0)))
        for kind in KINDS:
            self.same(self.told(kind_table, kind), table_by_hand(*kind))

    def test_many_roots(self):
        for kind in KINDS:
            self.same(self.told(many_roots, kind), len(all_roots(table_by_hand(*kind))))
            if kind[1] <= 10:
                self.assertEqual(len(roots_of(kind_table(kind))), many_roots(kind))
                self.assertEqual(rank_of(kind_table(kind)), kind[1])
                self.assertEqual(len(base_of(kind_table(kind))), kind[1])

    def test_many_bases(self):
        self.same([many_bases(("E", m)) for m in (6, 7, 8)], [51840, 2903040, 696729600])
        for kind in KINDS[:12]:
            self.same(self.told(many_bases, kind), math.factorial(kind[1] + 1))
        for kind in KINDS[12:21]:
            self.same(self.told(many_bases, kind), 2 ** (kind[1] - 1) * math.factorial(kind[1]))

    def test_many_bases_by_counting(self):
        for kind in (("A", 1), ("A", 2), ("A", 3), ("D", 4)):
            rows = {*rows_by_hand(kind)}
            lots = itertools.combinations(sorted(rows), kind[1])
            found = [lot for lot in lots if all(product(x, y) <= 0 for x, y in itertools.combinations(lot, 2))
                     and helpers.rank(lot) == kind[1] and is_base(rows, lot)]
            self.assertEqual(len(found), many_bases(kind), kind)

    def test_root_rows(self):
        self.same(root_rows(("A", 1)), ((-2, 2), (2, -2)))
        for kind in KINDS:
            told = self.told(root_rows, kind)
            self.same(told, rows_by_hand(kind))
            self.assertEqual(len(told), many_roots(kind))
            self.assertEqual({len(row) for row in told}, {{"A": kind[1] + 1, "D": kind[1], "E": 8}[kind[0]]})
            self.assertTrue(all(product(row, row) == 2 for row in told))
            self.assertEqual(helpers.rank(told), kind[1])

    def test_products_of_root_rows(self):
        for kind in [("A", 5), ("D", 4), ("D", 6), ("E", 6), ("E", 7), ("E", 8)]:
            rows = root_rows(kind)
            for one in rows[:20]:
                for other in rows:
                    m = product(one, other)
                    self.assertTrue(-1 <= m <= 1 or m == 2 and one == other or m == -2)
                    self.assertIn(tuple(x - m * y for x, y in zip(other, one)), rows)

    def test_wrong_kinds(self):
        for thing in WRONG_KINDS:
            for function in (kind_table, many_roots, many_bases, root_rows):
                self.raises(BadKind, thing, function, thing)
            self.raises(BadKind, thing, holds_kind, thing, ("A", 1))
            self.raises(BadKind, thing, holds_kind, ("A", 1), thing)
            self.raises(BadKind, thing, holds_kind, thing, None)
            self.raises(BadKind, [], holds_kind, [], thing)


class HoldTests(Case):
    def test_all_pairs(self):
        self.whether(True, holds_kind, ("E", 7), ("A", 7))
        self.whether(False, holds_kind, ("E", 6), ("A", 6))
        self.whether(False, holds_kind, ("D", 4), ("A", 4))
        for one in KINDS:
            for other in KINDS:
                self.whether(held_by_hand(one, other), holds_kind, one, other)

    def test_by_search(self):
        few = [kind for kind in KINDS if kind[1] <= 6]
        pairs = [(one, other) for one in few for other in few]
        pairs += [(("E", 7), other) for other in KINDS if other[1] <= 7 and other[0] != "A" or other == ("A", 7)]
        pairs += [(("E", 8), other) for other in (("A", 8), ("D", 8), ("E", 6), ("E", 7), ("E", 8), ("D", 5))]
        told = {kind: products_of_rows(rows_by_hand(kind)) for kind in {one for one, _ in pairs}}
        for one, other in pairs:
            self.assertEqual(holds_kind(one, other), are_found(told[one], table_by_hand(*other)), (one, other))


class KindsOfTests(Case):
    def test_told_webs(self):
        for table, wanted in (
                (ring_web(4), [("A", 3)]), (star_web(4), [("D", 4)]), (star_web(3), [("D", 4)]), (PETERSEN, [("E", 6)]),
                (TRIANGLE, [("D", 5)]), (RINGED_E6, [("E", 6)]), (RINGED_E7, [("E", 7)]), (RINGED_E8, [("E", 8)]),
                (((0,),), [("A", 1)]), (TWO, [("A", 2)]), (zero_table(3), [("A", 1)] * 3), (full_web(10), [("A", 10)]),
                (ring_web(10), [("A", 9)]), (ring_web(10, -1), [("D", 10)]), (ring_web(9), [("D", 9)]), (ring_web(3), [("A", 3)]),
                (ring_web(3, -1), [("A", 2)]), (beside(TWO, ((0,),), star_web(3)), [("A", 2), ("A", 1), ("D", 4)]),
                (beside(table_by_hand("E", 6), star_web(3)), [("E", 6), ("D", 4)]),
                (beside(((0,),), table_by_hand("E", 8)), [("A", 1), ("E", 8)])):
            self.same(self.told(kinds_of, table), tuple(wanted))

    def test_kind_tables(self):
        rnd = seeded("kind tables")
        for kind in KINDS:
            table = table_by_hand(*kind)
            self.same(self.told(kinds_of, table), (kind,))
            self.same(kinds_of(helpers.led(table, random_turning(rnd, len(table)))), (kind,))

    def test_kinds_by_their_bases(self):
        for table, _ in GOOD + GREAT:
            parts = [helpers.within(table, part) for part in helpers.parts_of(table)]
            self.same(self.told(kinds_of, table), tuple(kind_by_base(part) for part in parts))
            self.assertEqual(sum(rank for _, rank in kinds_of(table)), helpers.rank(product_table(table)))
            if len(table) <= 8:
                self.assertEqual(sum(many_roots(kind) for kind in kinds_of(table)), len(roots_of(table)))

    def test_mixed_parts(self):
        # Here the places of the parts stand among one another.
        rnd = seeded("mixed parts")
        tables = [((0,),), TWO, PATH, star_web(3), ring_web(4), table_by_hand("D", 5), table_by_hand("E", 6), full_web(3)]
        for _ in range(40):
            table = beside(*[table for table in rnd.sample(tables, 3)])
            if len(table) <= 10:
                table = helpers.led(table, random_turning(rnd, len(table)))
                parts = [helpers.within(table, part) for part in helpers.parts_of(table)]
                self.same(kinds_of(table), tuple(kind_by_base(part) for part in parts))

    def test_errors(self):
        for wrong in wrong_webs():
            self.raises(BadWeb, wrong, kinds_of, wrong)
        for table in LOW:
            self.too_low(table, kinds_of)
        rnd = seeded("kinds or too low")
        for many in range(1, 11):
            for _ in range(4):
                table = random_signed(rnd, many, 3)
                if helpers.is_good(table):
                    self.assertEqual(len(kinds_of(table)), len(helpers.parts_of(table)))
                else:
                    self.too_low(table, kinds_of)


if __name__ == "__main__":
    unittest.main()
