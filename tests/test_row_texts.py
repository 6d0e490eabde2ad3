"""[6.1]: rows of logs and their texts."""

import re
import unittest
from itertools import permutations

from allshelves.disks import is_log_row, read_row, row_text, sectors_of
from allshelves.errors import BadRow, BadText
from helpers import Checks, spoiled, values_of_any_kind

ROWS = {
    "begin 0 leader 0,1": ("begin", 0, "leader", (0, 1)),
    "begin 12 member 3,0,2": ("begin", 12, "member", (3, 0, 2)),
    "begin 999999999 leader 2,1,3,0": ("begin", 999999999, "leader", (2, 1, 3, 0)),
    "read 3 a": ("read", 3, "a"),
    "read 0 abcdefghij": ("read", 0, "abcdefghij"),
    "write 3 apple - 5": ("write", 3, "apple", None, 5),
    "write 10 b 0 -": ("write", 10, "b", 0, None),
    "write 1 c -7 -123456789": ("write", 1, "c", -7, -123456789),
    "write 1 c - -": ("write", 1, "c", None, None),
    "write 1 c -1 1": ("write", 1, "c", -1, 1),
    "undo 4 z -": ("undo", 4, "z", None),
    "undo 4 z 0": ("undo", 4, "z", 0),
    "undo 4 z -10": ("undo", 4, "z", -10),
    "mark 3 able": ("mark", 3, "able"),
    "mark 5 begin": ("mark", 5, "begin"),
    "end 3 kept": ("end", 3, "kept"),
    "end 20 dropped": ("end", 20, "dropped"),
}

NUMBER = "(0|[1-9][0-9]*)"
WORTH = "(-|0|-?[1-9][0-9]*)"
WORD = "[a-z]{1,10}"
TEXT = re.compile("|".join([
    f"begin {NUMBER} (leader|member) [0-3](,[0-3]){{1,3}}", f"read {NUMBER} {WORD}",
    f"write {NUMBER} {WORD} {WORTH} {WORTH}", f"undo {NUMBER} {WORD} {WORTH}", f"mark {NUMBER} {WORD}",
    f"end {NUMBER} (kept|dropped)",
]))


def all_ends():
    """Ends with which the beginning of some text can be made one."""
    texts = list(ROWS) + ["write 1 a 1 1", "undo 1 a 1", "undo 1 a -1", "write 1 a -1 -1", "begin 1 member 1,0"]
    for many in (2, 3, 4):
        texts.extend("begin 1 leader " + ",".join(order) for order in permutations("0123", many))
    return sorted({text[k:] for text in texts for k in range(len(text) + 1)})


ENDS = all_ends()


def is_text(text):
    """Whether a text is that of a row, by another rule than the program's."""
    if not TEXT.fullmatch(text):
        return False
    houses = text.split(" ")[-1].split(",")
    return len(set(houses)) == len(houses)


def goes_on(text):
    """Whether some text of a row begins with a text."""
    return any(is_text(text + end) for end in ENDS)


def wrong_at(text):
    at = 0
    while at < len(text) and goes_on(text[:at + 1]):
        at += 1
    return at


class Form(Checks):
    def no(self, thing):
        self.assertIs(is_log_row(thing), False, thing)
        self.refuses(BadRow, thing, row_text, thing)
        self.refuses(BadRow, thing, sectors_of, thing)

    def test_right_rows(self):
        for row in ROWS.values():
            self.assertIs(is_log_row(row), True)
            self.assertIs(is_log_row(thing=row), True)
        for houses in [order for many in (2, 3, 4) for order in permutations(range(4), many)]:
            self.assertIs(is_log_row(("begin", 0, "leader", houses)), True)
            self.assertIs(is_log_row(("begin", 0, "member", houses)), True)

    def test_values_of_any_kind(self):
        for thing in values_of_any_kind():
            self.no(thing)
            for row in ROWS.values():
                self.no((thing,) + row[1:])
                self.no(row + (thing,))

    def test_deals(self):
        for row in ROWS.values():
            for deal in (0, 1, 10 ** 39):
                self.assertIs(is_log_row(row[:1] + (deal,) + row[2:]), True)
            for deal in (-1, True, False, None, "1", (1,), [], -10 ** 39):
                self.no(row[:1] + (deal,) + row[2:])

    def test_words(self):
        for word in ("a", "z", "abcdefghij", "kept", "begin"):
            for row in (("read", 0, word), ("write", 0, word, 1, 2), ("undo", 0, word, 1), ("mark", 0, word)):
                self.assertIs(is_log_row(row), True)
        for word in ("", "abcdefghijk", "A", "a b", "a1", "-", "\u00e4", None, 1, True, ("a",), ["a"], {}):
            for row in (("read", 0, word), ("write", 0, word, 1, 2), ("undo", 0, word, 1), ("mark", 0, word)):
                self.no(row)

    def test_worths(self):
        for worth in (None, 0, 5, -5, 10 ** 39, -10 ** 39):
            for row in (("write", 0, "a", worth, 1), ("write", 0, "a", 1, worth), ("undo", 0, "a", worth)):
                self.assertIs(is_log_row(row), True)
        for worth in (True, False, "", "-", "5", (), (5,), [], {}):
            for row in (("write", 0, "a", worth, 1), ("write", 0, "a", 1, worth), ("undo", 0, "a", worth)):
                self.no(row)

    def test_houses(self):
        for houses in (
            (), (0,), (0, 1, 2, 3, 0), (0, 0), (1, 2, 1), (0, 4), (-1, 0), (0, True), (False, 1), [0, 1], (0, "1"), (0, None),
            "01", None, 1, (0, [1]), ((0, 1),), {0: 1}, (0, 1, 2, 3, 4),
        ):
            self.no(("begin", 0, "leader", houses))

    def test_roles_and_ends(self):
        for role in ("", "leaders", "Leader", None, 0, True, ("leader",), ["leader"], "kept"):
            self.no(("begin", 0, role, (0, 1)))
        for end in ("", "Kept", "lost", None, 0, True, ("kept",), ["kept"], "leader"):
            self.no(("end", 0, end))

    def test_lengths(self):
        for row in ROWS.values():
            self.no(list(row))
            self.no(row[:-1])
            self.no(row[:1])
            self.no(row + row[-1:])
            self.no(row[1:])
            self.no((row[1], row[0]) + row[2:])
            self.no((row,))
        self.no(("begins", 0, "a"))
        self.no(("", 0, "a"))

    def test_spoiled_rows(self):
        right = 0
        for row in ROWS.values():
            for thing in spoiled(row):
                if is_log_row(thing):
                    right += 1
                    self.same(read_row(row_text(thing)), thing)
                else:
                    self.no(thing)
        self.assertGreater(right, 100)


class Texts(Checks):
    def test_there_and_back(self):
        for text, row in ROWS.items():
            self.same(row_text(row), text)
            self.same(row_text(row=row), text)
            self.same(read_row(text), row)
            self.same(read_row(text=text), row)

    def test_integers(self):
        for number in (0, 1, 9, 10, 99, 100, 123456789, 10 ** 39, 10 ** 300 + 7):
            self.same(read_row(f"end {number} kept"), ("end", number, "kept"))
            self.same(read_row(f"undo 1 a {number}"), ("undo", 1, "a", number))
            self.same(row_text(("write", number, "a", number, -number)), f"write {number} a {number} {-number}")
            if number > 0:
                self.same(read_row(f"write 1 a -{number} -{number}"), ("write", 1, "a", -number, -number))

    def test_integers_with_more_digits_than_python_reads(self):
        self.assertTrue(read_row("end " + "9" * 5000 + " kept")[1] == 10 ** 5000 - 1)
        self.assertTrue(read_row("undo 1 a -1" + "0" * 5000)[3] == -10 ** 5000)


class WrongTexts(Checks):
    def wrong(self, text, at):
        raised = self.refused(BadText, read_row, text)
        self.same(vars(raised), {"at": at})

    def test_no_strings(self):
        for thing in values_of_any_kind() + list(ROWS.values()) + [list("end 3 kept"), ("end 3 kept",), b"end 3 kept"]:
            if not isinstance(thing, str):
                self.wrong(thing, -1)

    def test_incomplete_texts(self):
        for text in ROWS:
            for many in range(len(text)):
                if not is_text(text[:many]):
                    self.wrong(text[:many], many)

    def test_places(self):
        for text, at in (
            ("", 0), (" ", 0), ("a", 0), ("x 3 kept", 0), ("End 3 kept", 0), (" end 3 kept", 0), ("3 end kept", 0),
            ("enD 3 kept", 2), ("ends 3 kept", 3), ("end  3 kept", 4), ("end3 kept", 3), ("wrote 1 a 1 1", 2), ("rite", 1), ("mar", 3),
            ("end - kept", 4), ("end -3 kept", 4), ("end 03 kept", 5), ("end 0", 5), ("end 00", 5), ("end +3 kept", 4),
            ("end 3a kept", 5), ("end 3  kept", 6), ("end 3,4 kept", 5), ("end 3 keep", 8), ("end 3 kept ", 10), ("end 3 kepts", 10),
            ("end 3 drop", 10), ("end 3 leader", 6), ("end 3 kept\n", 10), ("end 3\tkept", 5), ("end \u0663 kept", 4), ("end 3 ", 6),
            ("read 3 ", 7), ("read 3 A", 7), ("read 3 aB", 8), ("read 3 abcdefghijk", 17), ("read 3 abcdefghij ", 17), ("read 3 a1", 8),
            ("read 3 a-", 8), ("read 3 a 5", 8), ("read 3 \u00e4", 7), ("read 3 a,b", 8), ("mark 3 ", 7), ("mark 3 7", 7), ("mark  a", 5),
            ("write 3 a", 9), ("write 3 a ", 10), ("write 3 a 5", 11), ("write 3 a 5 ", 12), ("write 3 a -0 5", 11), ("write 3 a --", 11),
            ("write 3 a 05 5", 11), ("write 3 a 5 05", 13), ("write 3 a 5 -0", 13), ("write 3 a 5 5 5", 13), ("write 3 a 5-5", 11),
            ("write 3 a None 5", 10), ("write 3 a - - ", 13), ("write 3 a 1.5 2", 11), ("write 3 a -a 2", 11), ("write 3 a -1a 2", 12),
            ("undo 3 a 0-", 10), ("undo 3 a 00", 10), ("undo 3 a -1-", 11), ("undo 3 a - 5", 10), ("undo 3 a +", 9), ("undo 3 a", 8),
            ("begin 3 leader", 14), ("begin 3 leader ", 15), ("begin 3 leader 0", 16), ("begin 3 leader 0,", 17), ("begin 3 leader 4,0", 15),
            ("begin 3 leader 0,0", 17), ("begin 3 leader 0,1,0", 19), ("begin 3 leader 0,1,", 19), ("begin 3 leader 0,1,2,3,", 22),
            ("begin 3 leader 0,1,2,3,0", 22), ("begin 3 leader 0 1", 16), ("begin 3 leader 0, 1", 17), ("begin 3 leader 01", 16),
            ("begin 3 leader 0,1 ", 18), ("begin 3 leader (0,1)", 15), ("begin 3 leader -,1", 15), ("begin 3 leader 0,11", 18),
            ("begin 3 leaders 0,1", 14), ("begin 3 kept 0,1", 8), ("begin 3 mem 0,1", 11), ("begin 3 leader ,0", 15), ("begin 3 lm", 9),
        ):
            self.wrong(text, at)
            self.assertEqual(wrong_at(text), at, text)

    def test_each_character_replaced_or_added(self):
        for text in list(ROWS)[:3] + list(ROWS)[5:8] + ["undo 4 z -10", "end 3 kept", "read 10 ab"]:
            for at in range(len(text) + 1):
                for sign in " -,0129ahkz.~\n":
                    for other in (text[:at] + sign + text[at:], text[:at] + sign + text[at + 1:]):
                        if is_text(other):
                            self.same(row_text(read_row(other)), other)
                        else:
                            self.wrong(other, wrong_at(other))

    def test_each_character_left_out_or_exchanged(self):
        for text in ROWS:
            for at in range(len(text)):
                for other in (text[:at] + text[at + 1:], text[:at] + text[at:at + 2][::-1] + text[at + 2:]):
                    if is_text(other):
                        self.same(row_text(read_row(other)), other)
                    else:
                        self.wrong(other, wrong_at(other))

    def test_strings_of_any_kind(self):
        for thing in values_of_any_kind() + ["x" * 1000, " " * 1000, "\n" * 9, "write 1 a " + "9" * 990]:
            if isinstance(thing, str):
                self.wrong(thing, wrong_at(thing))


if __name__ == "__main__":
    unittest.main()
