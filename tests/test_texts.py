"""[1.6] and texts.py."""

import re
import unittest

from tests import helpers
from tests.helpers import Case, any_values, bent, full_web, random_table, seeded, symmetric, zero_table
from withintwo.errors import BadTable, BadText
from withintwo.texts import read_table, text_of

PATH = ((0, 1, 0), (1, 0, 1), (0, 1, 0))
WRONG = [thing for thing in any_values() + bent(PATH) if not helpers.is_table(thing)]


def plain_text(table):
    lines = ["table " + str(len(table))]
    for i in range(len(table)):
        lines.append(" ".join(str(table[i][j]) for j in range(i + 1)))
    return "\n".join(lines)


def first_wrong(text):
    """The number of the first line that is wrong or missing, or stands behind the last one; None for none."""
    lines = text.split("\n")
    if not re.fullmatch("table ([1-9]|1[0-2])", lines[0]):
        return 1
    many = int(lines[0].split()[1])
    number = "(0|-?[1-9][0-9]*)"
    for at in range(1, many + 1):
        if at >= len(lines) or not re.fullmatch(" ".join([number] * at), lines[at]):
            return at + 1
    return many + 2 if len(lines) > many + 1 else None


def some_tables():
    rnd = seeded("texts")
    found = [((0,),), ((-7,),), ((10 ** 20 - 1,),), ((0, 1), (1, -3)), PATH, zero_table(12), full_web(12, -1),
             symmetric(4, lambda i, j: (-10) ** (i + 4 * j)), symmetric(12, lambda i, j: 1 - 10 ** 20 + i)]
    for many in range(1, 13):
        found += [random_table(rnd, many, top) for top in (1, 11, 10 ** 20 - 1)]
    return found


class TextTests(Case):
    def bad(self, at, text):
        error = self.raised(read_table, text)
        self.assertIs(type(error), BadText, text)
        self.same(error.at, at, text)

    def check(self, text):
        at = first_wrong(text)
        if at is None:
            self.same(text_of(self.told(read_table, text)), text)
        else:
            self.bad(at, text)

    def test_texts(self):
        self.same(text_of(((0, 1), (1, -3))), "table 2\n0\n1 -3")
        self.same(text_of(((5,),)), "table 1\n5")
        self.same(text_of(zero_table(3)), "table 3\n0\n0 0\n0 0 0")
        self.same(text_of(((1, 2, 3), (2, 4, 5), (3, 5, 6))), "table 3\n1\n2 4\n3 5 6")
        for table in some_tables():
            self.same(self.told(text_of, table), plain_text(table))
            self.same(self.told(read_table, plain_text(table)), table)
        for wrong in WRONG:
            self.raises(BadTable, wrong, text_of, wrong)

    def test_what_is_no_string(self):
        for thing in any_values() + bent(PATH) + [("table 1\n0",), ["table 1", "0"]]:
            if not isinstance(thing, str):
                self.bad(0, thing)
            else:
                self.check(thing)

    def test_first_lines(self):
        for line in ("", "table", "table ", "table 0", "table 00", "table 01", "table 1 ", " table 1", "table  1", "Table 1",
                     "table +1", "table -1", "table 13", "table 100", "table 1.", "table one", "tables 1", "1", "table1",
                     "table 1 1", "workshop", "table 010", "able 1", "table 1_0", "table 2.0"):
            self.bad(1, line)
            self.bad(1, line + "\n0")
            self.bad(1, line + "\n0\n0 0")

    def test_missing_lines(self):
        for table in some_tables():
            lines = plain_text(table).split("\n")
            for many in range(1, len(lines)):
                self.bad(many + 1, "\n".join(lines[:many]))
                self.bad(many + 1, "\n".join(lines[:many]) + "\n")

    def test_behind_the_last_line(self):
        for table in some_tables():
            text = plain_text(table)
            for more in ("\n", "\n0", "\n\n", "\n" + text, "\nlow", "\n ", "\n" + text.split("\n")[-1]):
                self.bad(len(table) + 2, text + more)

    def test_numbers(self):
        for word in ("", " ", "00", "01", "-0", "+1", "-", "--1", "1.0", "1e3", "0x1", "1_000", "a", "x1", "1x", "-01", "- 1",
                     "True", "None", "1,", "(1)", "000", "1-", "+0", "0-", "1/1"):
            self.bad(2, "table 1\n" + word)
            self.bad(3, "table 2\n0\n1 " + word)
            self.bad(3, "table 2\n0\n" + word + " 1")
            self.bad(2, "table 2\n" + word + "\n1 0")
            self.bad(2, "table 2\n" + word + "\n1 " + word)
            self.bad(2, "table 2\n" + word)
        for word in ("0", "1", "-1", "9", "10", "-10", "99999999999999999999", "-99999999999999999999", "1000", "-907"):
            self.same(read_table("table 1\n" + word), ((int(word),),))
            self.same(read_table("table 2\n0\n" + word + " 5"), ((0, int(word)), (int(word), 5)))

    def test_numbers_in_a_line(self):
        text = "table 3\n0\n1 2\n3 4 5"
        self.same(read_table(text), ((0, 1, 3), (1, 2, 4), (3, 4, 5)))
        for at, line in ((2, "0 0"), (2, ""), (3, "1"), (3, "1 2 3"), (3, "1  2"), (3, " 1 2"), (3, "1 2 "), (3, ""),
                         (4, "3 4"), (4, "3 4 5 6"), (4, "3 4  5"), (4, " 3 4 5"), (4, "3 4 5 "), (4, "345"), (4, "")):
            lines = text.split("\n")
            lines[at - 1] = line
            self.bad(at, "\n".join(lines))
        self.bad(2, "table 3\n0 0\n1\n3 4")
        self.bad(2, "table 3\nx\n1 2\n3 4 5\n")

    def test_each_bend_of_a_sign(self):
        for table in (((0,),), ((0, 1), (1, -3)), ((10, -2, 0), (-2, 0, 45), (0, 45, 7)), zero_table(5)):
            text = plain_text(table)
            for at in range(len(text) + 1):
                for sign in "-+ 019a\n.t":
                    self.check(text[:at] + sign + text[at:])
                    self.check(text[:at] + sign + text[at + 1:])
                self.check(text[:at] + text[at + 1:])
                self.check(text[:at])
                self.check(text[at:])
                self.check(text[:at] + text[at + 1:at + 2] + text[at:at + 1] + text[at + 2:])

    def test_each_bend_of_a_line(self):
        for table in some_tables():
            lines = plain_text(table).split("\n")
            for at in range(len(lines)):
                self.check("\n".join(lines[:at] + lines[at + 1:]))
                self.check("\n".join(lines[:at] + lines[at:at + 1] + lines[at:]))
                self.check("\n".join(lines[:at] + [""] + lines[at:]))
                self.check("\n".join(lines[:at] + [" " + lines[at]] + lines[at + 1:]))
                self.check("\n".join(lines[:at] + [lines[at] + " "] + lines[at + 1:]))
                self.check("\n".join(lines[:at] + ["0" + lines[at]] + lines[at + 1:]))
                self.check("\n".join(lines[:at] + [lines[at].replace(" ", " 0", 1)] + lines[at + 1:]))
                self.check("\n".join(lines[:at] + [lines[at].replace(" ", "  ", 1)] + lines[at + 1:]))
                for other in range(at):
                    bend = list(lines)
                    bend[at], bend[other] = bend[other], bend[at]
                    self.check("\n".join(bend))

    def test_lines_told_of_each_kind_of_bend(self):
        self.bad(3, "table 2\n0\n1")
        self.bad(2, "table 2\n1 -3")
        self.bad(3, "table 2\n0\n0\n1 -3")
        self.bad(4, "table 2\n0\n1 -3\n1 -3")
        self.bad(1, "0\ntable 2\n1 -3")
        self.bad(2, "table 2\n1 -3\n0")
        self.bad(3, "table 2\n0\n1 -03")
        self.bad(2, "table 2\n-\n1 -3")
        self.bad(1, "")
        self.bad(1, "\n")
        self.bad(2, "table 12")


if __name__ == "__main__":
    unittest.main()
