"""[11.1] to [11.5] and workshops.py."""

import copy
import itertools
import unittest
from fractions import Fraction

from tests import helpers
from tests.helpers import Case, any_values, beside, bent, full_web, kind_table, random_signed, ring_web, same, seeded, star_web, symmetric, web, zero_table
from tests.linework import RENAMED, is_line
from tests.test_between import by_values, is_beyond_row
from tests.test_kinds import kind_by_base
from tests.test_roots import PATH, RINGED_E6, TWO, product_table, wrong_webs
from tests.test_texts import plain_text
from withintwo import errors
from withintwo.errors import (BadChange, BadNumber, BadPlace, BadPromise, BadRow, BadText, BadWeb, Broken, Full, LastPlace, NothingToRedo,
                              NothingToUndo, TableError)
from withintwo.workshops import Workshop, read_workshop

ONE = ((0,),)
PROMISES = [("low",), ("between",), ("plain",), ("line",)] + [("rank", m) for m in range(1, 13)]
SIZES = {"come": 2, "go": 2, "sign": 2, "swap": 3, "tie": 4, "promise": 2, "drop": 2}
E6 = kind_table("E", 6)
WEBS = [ONE, TWO, PATH, ((0, -1), (-1, 0)), zero_table(10), full_web(4), full_web(4, -1), star_web(3), star_web(4), star_web(5), star_web(5, -1), ring_web(5),
        ring_web(4, -1), ring_web(3, -1), E6, RINGED_E6, kind_table("E", 7), kind_table("E", 8), beside(E6, TWO), beside(((0,),), E6, ((0,),)), full_web(10),
        kind_table("A", 10), kind_table("D", 10), beside(star_web(5), ((0, -1), (-1, 0))), beside(star_web(3), full_web(4)), web(8, [(0, 1), (1, 2), (2, 3), (3, 4), (2, 5), (5, 6), (6, 7)])]


def is_promise(thing):
    return type(thing) is tuple and all(type(item) in (str, int) for item in thing) and thing in PROMISES


def rank_by_hand(table):
    return helpers.inertia(table, Fraction(-2))[2]


def kinds_by_hand(table):
    return {part: kind_by_base(helpers.within(table, part)) for part in helpers.parts_of(table)}


def promise_kept(table, promise):
    """The words of [11.2]."""
    if promise == ("between",):
        return by_values(table)
    if promise == ("line",):
        return helpers.is_web(table) and is_line(table)
    if not helpers.is_good(table):
        return False
    if promise[0] == "rank":
        return rank_by_hand(table) <= promise[1]
    return promise == ("low",) or all(letter != "E" for letter, _ in kinds_by_hand(table).values())


def are_six(table, rows):
    if type(rows) is not tuple or len(rows) != 6 or not all(helpers.is_row(table, row) for row in rows):
        return False
    products = product_table(table)
    for i, j in itertools.product(range(6), repeat=2):
        if sum(x * y for x, y in zip(rows[i], helpers.image(products, rows[j]))) != (2 if i == j else E6[i][j]):
            return False
    return True


def against_right(table, promise, thing):
    """Whether any value is a certificate against a promise, by the words of [11.2]."""
    if type(thing) is not tuple or not thing or not isinstance(thing[0], str):
        return False
    word, size = thing[0], len(thing)
    if promise == ("between",):
        return word == "beyond" and size == 2 and is_beyond_row(table, thing[1])
    if promise == ("line",):
        if word == "minus" and size == 3 and helpers.are_ints(thing[1:]):
            return 0 <= thing[1] < thing[2] < len(table) and table[thing[1]][thing[2]] == -1
        if word != "bar" or size != 2 or not helpers.is_web(table) or not helpers.is_lot(table, thing[1]):
            return False
        return helpers.within(table, thing[1]) in RENAMED
    if word == "low" and size == 2:
        return helpers.is_low_row(table, thing[1])
    if promise[0] == "rank":
        return word == "rank" and size == 2 and type(thing[1]) is int and helpers.is_good(table) and promise[1] < thing[1] == rank_by_hand(table)
    if promise != ("plain",) or word != "six" or size != 3 or not helpers.is_good(table) or not helpers.is_lot(table, thing[1]):
        return False
    return thing[1] in helpers.parts_of(table) and are_six(helpers.within(table, thing[1]), thing[2])


def text_by_hand(table, promises):
    return "\n".join(["workshop", plain_text(table)] + [" ".join(str(item) for item in promise) for promise in promises])


class Wrong(Exception):
    """An error of a change, by its class and its attribute."""

    def __init__(self, made, *values):
        self.made, self.values = made, values


def is_place(table, thing):
    return type(thing) is int and 0 <= thing < len(table)


def changed_by_hand(table, promises, change):
    """The words of [11.3]."""
    if type(change) is not tuple or not change or not isinstance(change[0], str) or SIZES.get(change[0]) != len(change):
        raise Wrong(BadChange, 0)
    word, many = change[0], len(table)
    if word == "come":
        c = change[1]
        if not helpers.are_ints(c, many) or any(item not in (-1, 0, 1) for item in c):
            raise Wrong(BadRow, c)
        if many == 10:
            raise Wrong(Full)
        return symmetric(many + 1, lambda i, j: table[i][j] if i < many else (c + (0,))[j]), promises
    if word in ("go", "sign", "swap", "tie"):
        for at in range(1, 3 if word in ("swap", "tie") else 2):
            if not is_place(table, change[at]) or (at == 2 and change[1] == change[2]):
                raise Wrong(BadPlace, change[at])
    if word == "go":
        if many == 1:
            raise Wrong(LastPlace)
        return helpers.within(table, [place for place in range(many) if place != change[1]]), promises
    if word == "sign":
        return helpers.led(table, (tuple(range(many)), tuple(-1 if place == change[1] else 1 for place in range(many)))), promises
    if word == "swap":
        names = list(range(many))
        names[change[1]], names[change[2]] = change[2], change[1]
        return helpers.led(table, (tuple(names), (1,) * many)), promises
    if word == "tie":
        if type(change[3]) is not int or change[3] not in (-1, 0, 1):
            raise Wrong(BadNumber, change[3])
        return symmetric(many, lambda i, j: change[3] if {i, j} == {change[1], change[2]} else table[i][j]), promises
    if not is_promise(change[1]) or (change[1] in promises) == (word == "promise"):
        raise Wrong(BadPromise, change[1])
    if word == "promise":
        return table, promises + (change[1],)
    return table, tuple(promise for promise in promises if promise != change[1])


class Model:
    """What a workshop should tell, kept as plainly as can be: all states, and where among them it is."""

    def __init__(self, table):
        self.states, self.at = [(table, ())], 0

    def now(self):
        return self.states[self.at]

    def outcome(self, changes):
        """The state behind a deal, or the error against it; for a broken promise the error tells the promise."""
        state = self.now()
        if type(changes) is not tuple:
            return Wrong(BadChange, -1)
        for at, change in enumerate(changes):
            try:
                state = changed_by_hand(*state, change)
            except Wrong:
                return Wrong(BadChange, at)
        return self.kept(state)

    def single(self, change):
        try:
            return self.kept(changed_by_hand(*self.now(), change))
        except Wrong as wrong:
            return wrong

    def kept(self, state):
        for promise in state[1]:
            if not promise_kept(state[0], promise):
                return Wrong(Broken, promise, state[0])
        return state

    def do(self, state):
        self.states = self.states[:self.at + 1] + [state]
        self.at += 1


class ShopCase(Case):
    def state(self, shop):
        return (shop.web(), shop.promises(), shop.deeds(), str(shop))

    def agree(self, shop, model):
        table, promises = model.now()
        self.same(shop.web(), table)
        self.same(shop.promises(), promises)
        self.same(shop.deeds(), model.at)
        self.same(str(shop), text_by_hand(table, promises))

    def refused(self, shop, wrong, call, *arguments):
        """The call raises the error that is wanted, twice, and changes nothing."""
        before = self.state(shop)
        arguments_before = copy.deepcopy(arguments)
        for _ in range(2):
            with self.assertRaises(TableError) as caught:
                call(*arguments)
            error = caught.exception
            self.assertIs(type(error), wrong.made, arguments)
            if wrong.made is Broken:
                self.same(error.promise, wrong.values[0])
                self.assertTrue(against_right(wrong.values[1], error.promise, error.certificate), (wrong.values, error.certificate))
            else:
                self.assertTrue(same(tuple(vars(error).values()), wrong.values), (arguments, vars(error)))
            self.same(self.state(shop), before)
        self.assertTrue(same(arguments, arguments_before))

    def changes(self, shop, model, change):
        outcome = model.single(change)
        if isinstance(outcome, Wrong):
            self.refused(shop, outcome, shop.change, change)
        else:
            self.assertIsNone(shop.change(change))
            model.do(outcome)
        self.agree(shop, model)

    def deals(self, shop, model, deal):
        outcome = model.outcome(deal)
        before = self.state(shop)
        self.assertIs(shop.would(deal), not isinstance(outcome, Wrong), deal)
        self.same(self.state(shop), before)
        if isinstance(outcome, Wrong):
            self.refused(shop, outcome, shop.deal, deal)
        else:
            self.assertIsNone(shop.deal(deal))
            model.do(outcome)
        self.agree(shop, model)

    def made(self, table, *promises):
        """A workshop and its model, with promises."""
        shop, model = Workshop(table), Model(table)
        for promise in promises:
            self.changes(shop, model, ("promise", promise))
        return shop, model

    def undone(self, shop, model):
        self.assertIsNone(shop.undo())
        model.at -= 1
        self.agree(shop, model)

    def redone(self, shop, model):
        self.assertIsNone(shop.redo())
        model.at += 1
        self.agree(shop, model)


class NewTests(ShopCase):
    def test_new(self):
        for table in WEBS:
            shop = Workshop(table)
            self.same(self.state(shop), (table, (), 0, text_by_hand(table, ())))
            self.refused(shop, Wrong(NothingToUndo), shop.undo)
            self.refused(shop, Wrong(NothingToRedo), shop.redo)
            self.same(Workshop(web=table).web(), table)

    def test_wrong_webs(self):
        for wrong in wrong_webs():
            self.raises(BadWeb, wrong, Workshop, wrong)
        self.raises(BadWeb, ((1,),), Workshop, ((1,),))

    def test_methods_stand_in_the_class(self):
        for name in ("web", "promises", "deeds", "change", "deal", "would", "judged", "against_holds", "undo", "redo", "copied", "__init__", "__eq__", "__str__"):
            self.assertIn(name, vars(Workshop))
        self.assertEqual(Workshop.__module__, "withintwo.workshops")
        self.assertEqual(Workshop.__bases__, (object,))

    def test_equal(self):
        shops = [self.made(TWO)[0], self.made(TWO, ("low",))[0], self.made(TWO, ("low",), ("line",))[0], self.made(TWO, ("line",), ("low",))[0],
                 self.made(((0, -1), (-1, 0)))[0], self.made(ONE)[0], self.made(TWO, ("rank", 2))[0], self.made(TWO, ("rank", 3))[0]]
        for i, one in enumerate(shops):
            for j, other in enumerate(shops):
                self.assertIs(one == other, i == j)
                self.assertIs(one != other, i != j)
            for thing in any_values() + [str(one), one.web(), (one.web(), one.promises()), [one], (one,)]:
                if type(thing) is not Workshop:
                    self.assertIs(one == thing, False)
                    self.assertIs(thing == one, False)
                    self.assertIs(one != thing, True)
        other = Workshop(TWO)
        other.deal(())
        other.change(("sign", 0))
        other.change(("sign", 1))
        self.assertTrue(other == shops[0] and other.deeds() == 3)


class PromiseTests(ShopCase):
    def check(self, table, promise):
        shop = Workshop(table)
        told = shop.judged(promise)
        self.same(shop.judged(promise), told)
        kept = promise_kept(table, promise)
        if kept:
            self.same(told, ("holds",))
        else:
            self.assertTrue(against_right(table, promise, told), (table, promise, told))
            self.assertIs(shop.against_holds(promise, told), True)
            self.assertTrue(all(abs(item) < 10 ** 1000 for item in self.numbers(told)))
        self.assertIs(shop.against_holds(promise, ("holds",)), False)
        self.same(self.state(shop), (table, (), 0, text_by_hand(table, ())))
        return kept

    def numbers(self, thing):
        if isinstance(thing, tuple):
            return [number for item in thing for number in self.numbers(item)]
        return [thing] if isinstance(thing, int) else []

    def test_examples(self):
        shop = Workshop(star_web(2))
        self.same([shop.judged(("low",)), shop.judged(("rank", 1)), shop.judged(("line",))], [("holds",), ("rank", 3), ("holds",)])
        self.same(Workshop(((0, -1), (-1, 0))).judged(("line",)), ("minus", 0, 1))
        self.same(Workshop(beside(star_web(3), ONE)).judged(("line",)), ("bar", (0, 1, 2, 3)))
        told = Workshop(beside(TWO, E6)).judged(("plain",))
        self.same(told[:2], ("six", (2, 3, 4, 5, 6, 7)))

    def test_all_promises(self):
        rnd = seeded("promises")
        tables = WEBS + [random_signed(rnd, many, part) for many in range(1, 9) for part in (2, 4)]
        seen = {}
        for table in tables:
            for promise in PROMISES[:4] + [("rank", 1), ("rank", rnd.randrange(2, 12)), ("rank", min(12, len(table))), ("rank", 12)]:
                if promise != ("between",) or len(table) <= 10:
                    seen.setdefault(promise[0], []).append(self.check(table, promise))
        for word, kept in seen.items():
            self.assertTrue(min(kept.count(True), kept.count(False)) >= 8, (word, kept))

    def test_ranks_at_the_edge(self):
        for table, rank in ((ONE, 1), (TWO, 2), (ring_web(4), 3), (star_web(4), 4), (E6, 6), (RINGED_E6, 6), (full_web(10), 10), (zero_table(10), 10)):
            for m in range(1, 13):
                told = Workshop(table).judged(("rank", m))
                self.same(told, ("holds",) if m >= rank else ("rank", rank))
                for r in range(-1, 14):
                    self.assertIs(Workshop(table).against_holds(("rank", m), ("rank", r)), r == rank > m)
                self.assertIs(Workshop(table).against_holds(("rank", m), ("rank", True)), False)

    def test_against_holds(self):
        for table in WEBS:
            if len(table) > 8:
                continue
            shop = Workshop(table)
            things = [("holds",), ("low", (0,) * len(table)), ("beyond", (1,) * len(table)), ("rank", rank_by_hand(table)), ("minus", 0, 1), ("bar", (0, 1, 2, 3))]
            things += [shop.judged(promise) for promise in PROMISES[:5]]
            for promise in PROMISES[:5]:
                for thing in things:
                    self.assertIs(shop.against_holds(promise, thing), against_right(table, promise, thing), (table, promise, thing))

    def test_bent_certificates(self):
        for table in (PATH, full_web(4, -1), beside(TWO, E6), star_web(3), ((0, -1), (-1, 0)), full_web(4), beside(star_web(5), ((0, -1), (-1, 0)))):
            shop = Workshop(table)
            for promise in PROMISES[:5]:
                told = shop.judged(promise)
                things = bent(told)
                for thing in things if len(things) < 3000 else things[::7]:
                    self.assertIs(shop.against_holds(promise, thing), against_right(table, promise, thing), (table, promise, thing))

    def test_six(self):
        table = beside(TWO, E6, ONE)
        shop = Workshop(table)
        lot = (2, 3, 4, 5, 6, 7)
        rows = tuple(tuple(int(i == k) for k in range(6)) for i in range(6))
        self.assertIs(shop.against_holds(("plain",), ("six", lot, rows)), True)
        for wrong in ((0, 1), (8,), (0, 1) + lot, lot[:5], lot[::-1], list(lot), (), None, tuple(range(9)), (2, 3, 4, 5, 6, True)):
            self.assertIs(shop.against_holds(("plain",), ("six", wrong, rows)), False)
        for wrong in (rows[::-1], rows[:5], rows + rows[:1], list(rows), None, (), tuple((0, 0) + row + (0,) for row in rows), rows[:5] + ((0,) * 6,)):
            self.assertIs(shop.against_holds(("plain",), ("six", lot, wrong)), against_right(table, ("plain",), ("six", lot, wrong)))
        self.assertIs(shop.against_holds(("low",), ("six", lot, rows)), False)
        # A web with a part that is below -2 has no certificates but rows.
        for r in range(1, 13):
            self.assertIs(Workshop(full_web(4, -1)).against_holds(("rank", 1), ("rank", r)), False)
            self.assertIs(Workshop(star_web(5)).against_holds(("rank", 1), ("rank", r)), False)
        # The lot is a part, and of integers.
        self.assertIs(Workshop(RINGED_E6).against_holds(("plain",), ("six", (0, 1, 2, 3, 4, 5), rows)), False)
        self.assertIs(Workshop(E6).against_holds(("plain",), ("six", (0, 1, 2, 3, 4, 5), rows)), True)
        self.assertIs(Workshop(E6).against_holds(("plain",), ("six", (False, True, 2, 3, 4, 5), rows)), False)
        low = Workshop(beside(E6, full_web(4, -1)))
        self.assertIs(low.against_holds(("plain",), ("six", (0, 1, 2, 3, 4, 5), rows)), False)
        self.assertIs(low.against_holds(("rank", 5), ("rank", 6)), False)
        self.assertEqual(low.judged(("plain",))[0], "low")
        self.assertEqual(low.judged(("rank", 5))[0], "low")

    def test_minus_and_bars(self):
        shop = Workshop(beside(star_web(3), ((0, -1), (-1, 0))))
        self.same(shop.judged(("line",)), ("minus", 4, 5))
        for thing, wanted in ((("minus", 4, 5), True), (("minus", 5, 4), False), (("minus", 0, 1), False), (("bar", (0, 1, 2, 3)), False),
                              (("minus", 4, 6), False), (("minus", -2, -1), False), (("minus", 4), False), (("minus", (4, 5)), False)):
            self.assertIs(shop.against_holds(("line",), thing), wanted)
        for promise in PROMISES[:5]:
            self.assertIs(Workshop(TWO).against_holds(promise, ("drawing", 3, ((0, 1), (0, 2)))), False)
            self.assertIs(Workshop(TWO).against_holds(promise, ("rows", ((2, 2, 0), (2, 0, 2)))), False)
            self.assertIs(Workshop(TWO).against_holds(promise, ("placed", ((("T", 3), (0, 2), (1, 1)),))), False)
            self.assertIs(Workshop(TWO).against_holds(promise, ("squares", ())), False)
        shop = Workshop(beside(star_web(3), star_web(3)))
        for lot in itertools.combinations(range(8), 4):
            self.assertIs(shop.against_holds(("line",), ("bar", lot)), lot in ((0, 1, 2, 3), (4, 5, 6, 7)))

    def test_any_value(self):
        for table in (TWO, full_web(4, -1)):
            shop = Workshop(table)
            for promise in PROMISES[:6]:
                for thing in any_values() + [shop, (shop,), ("low", shop)]:
                    self.assertIs(shop.against_holds(promise, thing), against_right(table, promise, thing), (promise, thing))
            for thing in any_values() + bent(("rank", 3)) + bent(("low",)) + [("rank", 0), ("rank", 13), ("rank", True), ("rank",), ("rank", 1, 1), ("low", 1),
                                                                             "low", ["low"], ("Low",), ("holds",), ("line", None), ("between", 2), shop, (shop,),
                                                                             ("rank", shop), ("rank", "3"), ("rank", (3,)), ("six",), (("low",),)]:
                if not is_promise(thing):
                    before = self.state(shop)
                    self.refused(shop, Wrong(BadPromise, thing), shop.judged, thing)
                    self.refused(shop, Wrong(BadPromise, thing), shop.against_holds, thing, ("low", (1, 1)))
                    self.refused(shop, Wrong(BadPromise, thing), shop.change, ("promise", thing))
                    self.refused(shop, Wrong(BadPromise, thing), shop.change, ("drop", thing))
                    self.same(self.state(shop), before)


class ChangeTests(ShopCase):
    def test_each_change(self):
        rnd = seeded("each change")
        for table in WEBS:
            many = len(table)
            some = [("come", (0,) * many), ("come", (1,) * many), ("come", tuple(rnd.choice((-1, 0, 1)) for _ in range(many))), ("come", (0,) * (many + 1)),
                    ("come", (2,) * many), ("go", 0), ("go", many - 1), ("go", many), ("sign", 0), ("sign", many - 1), ("sign", -1), ("swap", 0, many - 1),
                    ("swap", many - 1, 0), ("swap", 0, 0), ("swap", many, 0), ("swap", 0, many), ("tie", 0, many - 1, 1), ("tie", many - 1, 0, -1),
                    ("tie", 0, many - 1, 0), ("tie", 0, 0, 1), ("tie", many, 0, 5), ("tie", 0, many, 5), ("tie", 0, many - 1, 2), ("tie", 0, many - 1, -2), ("tie", 0, many - 1, True)]
            for change in some:
                shop, model = self.made(table)
                self.changes(shop, model, change)
            shop, model = self.made(table)
            for change in some:
                self.changes(shop, model, change)

    def test_promises_are_made_and_dropped(self):
        shop, model = self.made(ONE)
        for promise in [("line",), ("rank", 12), ("low",), ("between",), ("rank", 1), ("plain",), ("rank", 2), ("rank", 3)]:
            self.changes(shop, model, ("promise", promise))
            self.changes(shop, model, ("promise", promise))
        self.assertEqual(len(shop.promises()), 8)
        for promise in [("low",), ("low",), ("rank", 4), ("rank", True), ("rank", 1), ("line",), ("line",)]:
            self.changes(shop, model, ("drop", promise))
        self.changes(shop, model, ("promise", ("low",)))
        self.same(shop.promises()[-1], ("low",))
        self.assertEqual(len(shop.promises()), 6)

    def test_ten_places_and_one(self):
        shop, model = self.made(zero_table(9))
        self.changes(shop, model, ("come", (1,) + (0,) * 8))
        for c in ((0,) * 10, (1,) * 10, (0,) * 9, None, (2,) * 10):
            self.changes(shop, model, ("come", c))
        self.refused(shop, Wrong(Full), shop.change, ("come", (0,) * 10))
        self.refused(shop, Wrong(BadRow, (0,) * 9), shop.change, ("come", (0,) * 9))
        for _ in range(9):
            self.changes(shop, model, ("go", 0))
        self.refused(shop, Wrong(LastPlace), shop.change, ("go", 0))
        self.refused(shop, Wrong(BadPlace, 1), shop.change, ("go", 1))
        self.same(shop.web(), ONE)
        self.assertEqual(shop.deeds(), 10)

    def test_any_value(self):
        for table in (ONE, TWO, PATH):
            shop, model = self.made(table, ("low",))
            things = any_values() + [("come",), ("go",), ("go", 0, 0), ("sign",), ("swap", 0), ("swap", 0, 1, 2), ("tie", 0, 1), ("promise",), ("drop",),
                                     ("promise", ("low",), 0), ("leave", 0), ("Go", 0), (None,), (("go",), 0), (["go"], 0), ({}, 0), ["go", 0], "go", ("", 0),
                                     ("come", (), 0), shop, (shop, 0), ("go", shop), ("come", shop), ("promise", shop), ("tie", 0, 1, shop)]
            for change in [("come", (1,) * len(table)), ("go", 0), ("sign", 0), ("swap", 0, 1), ("tie", 0, 1, 1), ("promise", ("line",)), ("drop", ("rank", 3))]:
                things += bent(change)
            for thing in things:
                outcome = model.single(thing)
                if isinstance(outcome, Wrong):
                    self.refused(shop, outcome, shop.change, thing)
                else:
                    other = shop.copied()
                    self.assertIsNone(other.change(thing))
                    self.same((other.web(), other.promises()), outcome)
                self.agree(shop, model)

    def test_each_wrong_argument(self):
        shop, model = self.made(PATH, ("low",))
        for thing in any_values() + [3, -1, True, False, (0,), "0", None, shop]:
            for change in (("go", thing), ("sign", thing), ("swap", thing, None), ("swap", 1, thing), ("tie", thing, None, None), ("tie", 1, thing, None),
                           ("tie", 0, 1, thing), ("come", thing), ("promise", thing), ("drop", thing)):
                outcome = model.single(change)
                if isinstance(outcome, Wrong):
                    self.refused(shop, outcome, shop.change, change)
                    self.refused(shop, Wrong(BadChange, 1), shop.deal, (("sign", 0), change, None))

    def test_broken(self):
        shop, model = self.made(star_web(3), ("between",), ("rank", 4), ("low",))
        self.changes(shop, model, ("come", (1, 0, 0, 0)))
        self.changes(shop, model, ("tie", 1, 2, 1))
        self.changes(shop, model, ("come", (0, 0, 0, 0, 1)))
        self.changes(shop, model, ("drop", ("between",)))
        self.changes(shop, model, ("come", (1,) * len(shop.web())))
        self.changes(shop, model, ("promise", ("line",)))
        self.changes(shop, model, ("promise", ("rank", 2)))
        # The first promise in their order is told, whichever is broken too.
        for order in itertools.permutations([("low",), ("between",), ("plain",), ("rank", 5)]):
            shop, model = self.made(star_web(4), *order)
            self.changes(shop, model, ("come", (1, 0, 0, 0, 0)))
            with self.assertRaises(Broken) as caught:
                shop.change(("come", (1, 0, 0, 0, 0)))
            self.same(caught.exception.promise, order[0])
            self.assertEqual(caught.exception.certificate[0], "beyond" if order[0] == ("between",) else "low")


class DealTests(ShopCase):
    def test_examples(self):
        shop, model = self.made(TWO)
        self.deals(shop, model, (("promise", ("between",)), ("come", (1, 0))))
        self.same(self.state(shop), (star_web(2), (("between",),), 1, "workshop\ntable 3\n0\n1 0\n1 0 0\nbetween"))
        self.assertIs(shop.would((("come", (1, 1, 1)),)), False)
        self.assertIs(shop.would((("come", (0, 1, 0)),)), True)
        self.changes(shop, model, ("sign", 0))
        self.undone(shop, model)
        self.refused(shop, Wrong(BadPlace, 3), shop.change, ("swap", 0, 3))

    def test_broken_amid(self):
        # Broken amid and mended behind: done. A change that raises: not done, whatever stands before and behind it.
        shop, model = self.made(star_web(4), ("low",), ("between",), ("rank", 4))
        bad = ("come", (1, 0, 0, 0, 0))
        self.deals(shop, model, (bad,))
        self.deals(shop, model, (bad, ("go", 5)))
        self.deals(shop, model, (bad, ("go", 1)))
        self.deals(shop, model, (bad, ("drop", ("low",)), ("drop", ("between",)), ("drop", ("rank", 4))))
        self.undone(shop, model)
        self.deals(shop, model, (bad, ("go", 0)))
        self.deals(shop, model, (("go", 1), ("go", 9), ("go", 0)))
        self.deals(shop, model, (bad, ("go", 5), None, ("go", 0)))
        self.deals(shop, model, (("drop", ("low",)), ("promise", ("low",))))
        self.deals(shop, model, (("promise", ("plain",)), ("promise", ("plain",))))
        self.deals(shop, model, (("promise", ("line",)), ("drop", ("line",))))

    def test_no_change_is_a_deed(self):
        shop, model = self.made(PATH, ("low",))
        for deal in ((), (("sign", 0), ("sign", 0)), (("swap", 0, 1), ("swap", 1, 0)), (("come", (0, 0, 0)), ("go", 3)), (("tie", 0, 1, 1),),
                     (("promise", ("line",)), ("drop", ("line",)))):
            before = (shop.web(), shop.promises(), str(shop))
            deeds = shop.deeds()
            self.deals(shop, model, deal)
            self.same((shop.web(), shop.promises(), str(shop)), before)
            self.assertEqual(shop.deeds(), deeds + 1)
        for _ in range(6):
            self.undone(shop, model)

    def test_twelve_changes(self):
        shop, model = self.made(ONE)
        grow = tuple(("come", (0,) * (k - 1) + (1,)) for k in range(1, 10))
        self.deals(shop, model, grow + (("promise", ("line",)), ("promise", ("rank", 10)), ("promise", ("plain",))))
        self.deals(shop, model, grow[:1] + (("go", 0),) * 11)
        self.deals(shop, model, (("go", 0),) * 9 + (("come", (1,)),) * 3)
        self.deals(shop, model, (("go", 0),) * 9 + (("come", (1,)), ("go", 1), ("sign", 0)))

    def test_each_position(self):
        for at in range(6):
            for wrong in (("go", 7), None, ("promise", ("low",)), ("drop", ("line",)), ("tie", 0, 1, 3), ("come", ()), [], ("jump",)):
                shop, model = self.made(PATH, ("low",))
                deal = (("sign", 1),) * at + (wrong,) + (("sign", 5),) * (5 - at)
                self.refused(shop, Wrong(BadChange, at), shop.deal, deal)
                self.deals(shop, model, deal)

    def test_any_value(self):
        shop, model = self.made(PATH, ("low",), ("rank", 3))
        things = any_values() + bent((("sign", 0), ("come", (1, 0, 0)))) + [shop, (shop,), ("sign", 0), [("sign", 0)], (("sign", 0), shop)]
        for thing in things:
            outcome = model.outcome(thing)
            before = self.state(shop)
            self.assertIs(shop.would(thing), not isinstance(outcome, Wrong), thing)
            self.same(self.state(shop), before)
            if isinstance(outcome, Wrong):
                self.refused(shop, outcome, shop.deal, thing)


class UndoTests(ShopCase):
    def test_back_and_forth(self):
        shop, model = self.made(ONE)
        for deal in ((("come", (1,)),), (("come", (1, 0)), ("promise", ("line",))), (), (("promise", ("rank", 3)),), (("swap", 0, 2), ("swap", 1, 2)),
                     (("drop", ("line",)), ("sign", 1)), (("promise", ("between",)),)):
            self.deals(shop, model, deal)
        for many in (1, 3, 7, 2, 7):
            for _ in range(many):
                self.undone(shop, model)
            if shop.deeds() == 0:
                self.refused(shop, Wrong(NothingToUndo), shop.undo)
            for _ in range(many):
                self.redone(shop, model)
            self.refused(shop, Wrong(NothingToRedo), shop.redo)

    def test_a_deed_ends_what_could_be_redone(self):
        for deed in ((), (("sign", 0),), (("promise", ("plain",)),)):
            shop, model = self.made(TWO, ("low",), ("between",))
            self.deals(shop, model, (("come", (1, 0)),))
            self.undone(shop, model)
            self.undone(shop, model)
            self.deals(shop, model, deed)
            self.refused(shop, Wrong(NothingToRedo), shop.redo)
            self.undone(shop, model)
            self.redone(shop, model)
            self.refused(shop, Wrong(NothingToRedo), shop.redo)

    def test_what_is_no_deed_ends_nothing(self):
        shop, model = self.made(star_web(4), ("low",))
        self.deals(shop, model, (("sign", 0),))
        self.undone(shop, model)
        self.refused(shop, Wrong(BadPlace, 9), shop.change, ("go", 9))
        self.refused(shop, Wrong(BadChange, 0), shop.change, None)
        self.refused(shop, Wrong(BadChange, -1), shop.deal, None)
        self.refused(shop, Wrong(BadChange, 0), shop.deal, (None,))
        self.deals(shop, model, (("come", (1, 0, 0, 0, 0)), ("go", 1), ("go", 1), ("tie", 0, 1, -1), ("come", (1, 1, 1, 1, 1))) * 2)
        bad = ("come", (1, 0, 0, 0, 0))
        self.refused(shop, Wrong(Broken, ("low",), star_web(5)), shop.change, bad)
        self.refused(shop, Wrong(Broken, ("low",), star_web(5)), shop.deal, (bad,))
        self.assertIs(shop.would((("sign", 1),)), True)
        self.assertIs(shop.would((bad,)), False)
        shop.judged(("line",))
        shop.against_holds(("low",), None)
        shop.copied().change(("sign", 2))
        self.assertTrue(shop == read_workshop(str(shop)))
        self.same((shop.web(), shop.promises(), shop.deeds()), model.now() + (1,))
        self.redone(shop, model)
        self.undone(shop, model)
        self.redone(shop, model)

    def test_copies(self):
        shop, model = self.made(PATH, ("low",), ("line",))
        self.deals(shop, model, (("sign", 0), ("sign", 0)))
        self.deals(shop, model, (("come", (0, 0, 1)),))
        self.undone(shop, model)
        other, other_model = shop.copied(), copy.deepcopy(model)
        self.assertIsNot(other, shop)
        self.assertIs(type(other), Workshop)
        self.assertTrue(other == shop)
        self.agree(other, other_model)
        self.redone(other, other_model)
        self.agree(shop, model)
        self.deals(other, other_model, (("drop", ("line",)), ("tie", 0, 2, -1)))
        self.agree(shop, model)
        self.refused(other, Wrong(NothingToRedo), other.redo)
        self.redone(shop, model)
        for _ in range(3):
            self.undone(shop, model)
        self.agree(other, other_model)
        while other.deeds():
            self.undone(other, other_model)
        self.agree(shop, model)
        third, third_model = shop.copied(), copy.deepcopy(model)
        self.deals(third, third_model, (("go", 0),))
        for _ in range(3):
            self.redone(shop, model)
        self.refused(third, Wrong(NothingToRedo), third.redo)
        self.agree(third, third_model)


class RandomTests(ShopCase):
    def random_change(self, rnd, many):
        place, other = rnd.randrange(many), rnd.randrange(many + (rnd.randrange(12) == 0))
        return rnd.choice([("come", tuple(rnd.choice((0, 0, 1, -1)) for _ in range(many))), ("come", tuple(int(k == place) for k in range(many))), ("go", place),
                           ("sign", place), ("swap", place, other), ("tie", place, other, rnd.choice((-1, 0, 1))), ("promise", rnd.choice(PROMISES)),
                           ("promise", rnd.choice(PROMISES[:4])), ("drop", rnd.choice(PROMISES[:8]))])

    def test_along_many_deeds(self):
        for number in range(12):
            rnd = seeded(f"workshops {number}")
            shop, model = self.made(rnd.choice([ONE, TWO, PATH, star_web(3), ring_web(4, -1)]))
            for _ in range(40):
                many = len(shop.web())
                act = rnd.randrange(10)
                if act < 2 and model.at > 0:
                    self.undone(shop, model)
                elif act < 4 and model.at + 1 < len(model.states):
                    self.redone(shop, model)
                elif act < 7:
                    change = self.random_change(rnd, many)
                    if change[0] != "come" or many < 7:
                        self.changes(shop, model, change)
                else:
                    deal = tuple(self.random_change(rnd, many) for _ in range(rnd.randrange(4)))
                    if many < 6:
                        self.deals(shop, model, deal)
                if act == 9:
                    again = shop.copied()
                    self.assertTrue(again == shop and read_workshop(str(shop)) == shop)
                    self.same(again.deeds(), shop.deeds())
                for promise in shop.promises():
                    self.same(shop.judged(promise), ("holds",))


class TextTests(ShopCase):
    def shops(self):
        found = [self.made(table)[0] for table in WEBS]
        found += [self.made(ONE, *[promise for promise in PROMISES if promise[0] != "rank"], ("rank", 12), ("rank", 1), ("rank", 7), ("rank", 10))[0],
                  self.made(ring_web(5), ("rank", 5), ("line",), ("between",), ("low",), ("plain",))[0], self.made(E6, ("between",), ("rank", 6), ("low",))[0],
                  self.made(star_web(4), ("rank", 12), ("between",))[0]]
        return found

    def first_wrong(self, text):
        """The number of the first wrong or missing line; None if there is none, with what the lines tell."""
        lines = text.split("\n")
        if lines[0] != "workshop":
            return 1, None, None
        tables = [f"table {many}" for many in range(1, 13)]
        if len(lines) < 2 or lines[1] not in tables:
            return 2, None, None
        many = tables.index(lines[1]) + 1
        rows = []
        for at in range(many):
            words = lines[2 + at].split(" ") if 2 + at < len(lines) else []
            if len(words) != at + 1 or words[-1] != "0" or any(word not in ("-1", "0", "1") for word in words):
                return at + 3, None, None
            rows.append([int(word) for word in words])
        table = symmetric(many, lambda i, j: rows[i][j])
        promises = []
        names = {" ".join(map(str, promise)): promise for promise in PROMISES}
        for at in range(many + 2, len(lines)):
            promise = names.get(lines[at])
            if promise is None or promise in promises or not promise_kept(table, promise):
                return at + 1, None, None
            promises.append(promise)
        return None, table, tuple(promises)

    def check(self, text):
        at, table, promises = self.first_wrong(text)
        if at is None:
            shop = self.told(read_workshop, text)
            self.same(self.state(shop), (table, promises, 0, text))
            self.refused(shop, Wrong(NothingToUndo), shop.undo)
            self.refused(shop, Wrong(NothingToRedo), shop.redo)
        else:
            error = self.raised(read_workshop, text)
            self.assertIs(type(error), BadText, text)
            self.same(error.at, at, text)

    def test_examples(self):
        error = self.raised(read_workshop, "workshop\ntable 2\n0\n2 0")
        self.assertEqual((type(error), error.at), (BadText, 4))
        shop = read_workshop("workshop\ntable 2\n0\n-1 0\nrank 2\nlow")
        self.same((shop.web(), shop.promises()), (((0, -1), (-1, 0)), (("rank", 2), ("low",))))

    def test_read_back(self):
        for shop in self.shops():
            text = str(shop)
            again = read_workshop(text)
            self.assertTrue(again == shop)
            self.same(str(again), text)
            self.check(text)

    def test_lines_left_out_doubled_exchanged_changed(self):
        for shop in self.shops():
            lines = str(shop).split("\n")
            for at in range(len(lines)):
                self.check("\n".join(lines[:at] + lines[at + 1:]))
                self.check("\n".join(lines[:at] + lines[at:at + 1] * 2 + lines[at + 1:]))
                for line in ("", "0", "workshop", "low", "plain", "table 2", "rank 2", lines[at] + " ", " " + lines[at], lines[at] + " 0", lines[at].upper(),
                             lines[at].replace("0", "00"), lines[at].replace("1", "2"), lines[at].replace("0", "-0"), lines[at].replace(" ", "  ")):
                    self.check("\n".join(lines[:at] + [line] + lines[at + 1:]))
                for other in range(at):
                    swapped = list(lines)
                    swapped[at], swapped[other] = swapped[other], swapped[at]
                    self.check("\n".join(swapped))

    def test_ends(self):
        for text in ("", "workshop", "workshop\n", "workshop\ntable 1", "workshop\ntable 1\n", "workshop\ntable 1\n0", "workshop\ntable 1\n0\n", "\nworkshop",
                     "workshop\ntable 1\n1", "workshop\ntable 1\n0\n\nlow", "workshop\ntable 0", "workshop\ntable 13\n0", "workshop\ntable 01\n0", "table 1\n0",
                     "workshop\ntable 2\n1\n5", "workshop\ntable 2\n5\nx", "workshop\ntable 2\n0\n1 1", "workshop\ntable 2\n0\n1 0 0", "Workshop\ntable 1\n0",
                     "workshop\ntable 3\n0\n1 0\n1 1 1\nlow", "workshop \ntable 1\n0", "workshop\ntable 1\n0\nrank 0", "workshop\ntable 1\n0\nrank 13",
                     "workshop\ntable 1\n0\nrank 01", "workshop\ntable 1\n0\nrank", "workshop\ntable 1\n0\nrank  1", "workshop\ntable 1\n0\nlow 1",
                     "workshop\ntable 2\n0\n1 0\nrank 1", "workshop\ntable 2\n0\n1 0\nrank 2\nrank 1", "workshop\ntable 2\n0\n-1 0\nline",
                     "workshop\ntable 1\n0\nlow\nlow", "workshop\ntable 1\n0\nrank 1\nrank 2\nrank 1", "workshop\ntable 1\n0\nrank +1", "workshop\ntable 1\n0\nrank -1",
                     "workshop\ntable 2\n0\n+1 0", "workshop\ntable 2\n0\n" + "1" * 1900 + " 0", "workshop\ntable 1\n0\nbetween\nplain\nline\nlow\nrank 12\nbetween"):
            self.check(text)

    def test_promises_that_do_not_hold(self):
        for table in (full_web(4), full_web(4, -1), star_web(3), star_web(5), E6, ((0, -1), (-1, 0))):
            for promises in itertools.permutations(PROMISES[:4] + [("rank", 3), ("rank", 6)], 2):
                self.check(text_by_hand(table, promises))

    def test_any_value(self):
        for thing in any_values() + [Workshop(ONE), b"workshop", ["workshop", "table 1", "0"], ("workshop\ntable 1\n0",), {"workshop": 1}]:
            if isinstance(thing, str):
                self.check(thing)
            else:
                error = self.raised(read_workshop, thing)
                self.assertEqual((type(error), error.at), (BadText, 0))

    def test_texts_tell_nothing_of_deeds(self):
        shop, model = self.made(TWO, ("low",))
        text = str(shop)
        for _ in range(4):
            self.deals(shop, model, ())
        self.same(str(shop), text)
        self.same(read_workshop(text).deeds(), 0)
        self.assertTrue(read_workshop(text) == shop)


if __name__ == "__main__":
    unittest.main()
