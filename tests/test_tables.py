"""Part 7: pages, rows that are done to them, and done again."""

import random
import unittest
from itertools import product

from allshelves.errors import BadNumber, BadPages, BadRow, BadRows, BadWord
from allshelves.tables import all_done, are_pages, done, empty_pages, page_of, worth_of, worths_by, worths_on
from helpers import Checks, spoiled, values_of_any_kind
from oracle import pages_valid, worths_of

EMPTY = (0, ())
# With two pages, b and d belong to the second one, a, c and bb to the first.
TWO = ((4, (("a", 1), ("bb", -3))), (7, (("b", 0), ("d", 5))))
ROWS = (
    ("begin", 3, "leader", (0, 1)), ("write", 3, "b", None, 5), ("read", 3, "a"), ("write", 3, "a", None, 9),
    ("write", 3, "b", 5, None), ("undo", 3, "b", 5), ("mark", 3, "out"), ("undo", 3, "a", None), ("end", 3, "dropped"),
)
NO_NUMBERS = (0, 9, -1, 10 ** 39, True, False, None, "1", (1,), [1], {})
NO_WORDS = ("", "A", "a1", "a" * 11, "a b", None, 1, True, ("a",), ["a"], {}, "\u00e4", "a\n")


class Pages(Checks):
    def yes(self, thing):
        self.assertIs(are_pages(thing), True, thing)
        self.assertIs(are_pages(thing=thing), True)

    def no(self, thing):
        self.assertIs(are_pages(thing), False, thing)
        self.refuses(BadPages, thing, worth_of, thing, "a")
        self.refuses(BadPages, thing, worths_on, thing)
        self.refuses(BadPages, thing, done, thing, 1, ROWS[1])
        self.refuses(BadPages, thing, all_done, thing, ROWS)

    def test_how_many(self):
        for many in range(1, 9):
            self.yes((EMPTY,) * many)
            self.same(empty_pages(many), (EMPTY,) * many)
            self.same(empty_pages(many=many), (EMPTY,) * many)
        self.no(())
        self.no((EMPTY,) * 9)
        for many in NO_NUMBERS:
            self.refuses(BadNumber, many, empty_pages, many)
            self.refuses(BadNumber, many, page_of, "a", many)

    def test_valid_ones(self):
        self.yes(TWO)
        self.yes(((0, (("a", 1),)),))
        self.yes(((10 ** 39, (("abcdefghij", -(10 ** 39)), ("b", 0))),))

    def test_keys_on_wrong_pages(self):
        self.no(((0, (("b", 1),)), EMPTY))
        self.no((EMPTY, (0, (("a", 1),))))
        self.no((EMPTY, (0, (("b", 1), ("bb", 2)))))
        self.no(((0, (("a", 1),)), (0, (("a", 1),))))

    def test_keys_out_of_order_and_twice(self):
        self.no(((0, (("b", 1), ("a", 1))),))
        self.no(((0, (("a", 1), ("a", 1))),))
        self.no(((0, (("a", 1), ("a", 2))),))
        self.yes(((0, (("a", 2), ("b", 1))),))

    def test_parts(self):
        for worth in (None, True, False, "1", (1,), [1]):
            self.no(((0, (("a", worth),)),))
        for key in NO_WORDS:
            self.no(((0, ((key, 1),)),))
        for last in (-1, True, False, None, "0", (0,)):
            self.no(((last, ()),))
        for page in ((0,), (0, (), ()), [0, ()], (0, []), (0, {}), (0, ("a", 1)), (0, (["a", 1],)), (0, (("a",),)), (0, (("a", 1, 2),))):
            self.no((page,))
        self.no([EMPTY])
        self.no(EMPTY)

    def test_spoiled(self):
        for thing in spoiled(TWO):
            self.assertIs(are_pages(thing), pages_valid(thing), thing)
        for thing in values_of_any_kind():
            self.no(thing)

    def test_page_of(self):
        for key, many, place in (
            ("a", 8, 0), ("b", 1, 0), ("b", 2, 1), ("cab", 2, 1), ("z", 8, 1), ("zz", 8, 2), ("abcdefghij", 7, 3), ("h", 8, 7),
        ):
            self.same(page_of(key, many), place)
            self.same(page_of(many=many, key=key), place)
        for key in NO_WORDS:
            self.refuses(BadWord, key, page_of, key, 0)
            self.refuses(BadWord, key, worth_of, TWO, key)

    def test_worths(self):
        self.same([worth_of(TWO, key) for key in ("a", "b", "bb", "c", "d", "f")], [1, 0, -3, None, 5, None])
        self.same(worth_of(key="d", pages=TWO), 5)
        self.same(worths_on(TWO), (("a", 1), ("b", 0), ("bb", -3), ("d", 5)))
        self.same(worths_on(pages=empty_pages(8)), ())
        self.refuses(BadPages, 0, worth_of, 0, "A")


class Doing(Checks):
    def test_write(self):
        self.same(done(TWO, 8, ("write", 1, "d", 5, 6)), (TWO[0], (8, (("b", 0), ("d", 6)))))
        self.same(done(TWO, 5, ("write", 1, "c", None, 2)), ((5, (("a", 1), ("bb", -3), ("c", 2))), TWO[1]))
        # What the row says was there before does not matter.
        self.same(done(TWO, 5, ("write", 1, "a", 77, 2)), ((5, (("a", 2), ("bb", -3))), TWO[1]))

    def test_to_none(self):
        for row in (("write", 1, "a", 1, None), ("undo", 1, "a", None)):
            self.same(done(TWO, 5, row), ((5, (("bb", -3),)), TWO[1]))
        for row in (("write", 1, "c", 1, None), ("undo", 1, "c", None)):
            self.same(done(TWO, 5, row), ((5, TWO[0][1]), TWO[1]))

    def test_undo(self):
        self.same(done(TWO, 5, ("undo", 1, "a", 4)), ((5, (("a", 4), ("bb", -3))), TWO[1]))
        self.same(done(pages=TWO, number=5, row=("undo", 1, "c", 4)), ((5, (("a", 1), ("bb", -3), ("c", 4))), TWO[1]))

    def test_numbers_below_at_and_above_last(self):
        for number in (1, 3, 4, 5, 6, 10 ** 39):
            for row in (("write", 1, "a", 1, 2), ("undo", 1, "a", 2)):
                wanted = TWO if number <= 4 else ((number, (("a", 2), ("bb", -3))), TWO[1])
                self.same(done(TWO, number, row), wanted)
        # The other page's last number is of no account.
        self.same(done(TWO, 6, ("undo", 1, "d", 2)), TWO)

    def test_other_rows(self):
        for row in ROWS:
            if row[0] not in ("write", "undo"):
                self.same(done(TWO, 99, row), TWO)

    def test_twice(self):
        for row in ROWS:
            once = done(TWO, 9, row)
            self.same(done(once, 9, row), once)

    def test_errors(self):
        for number in (0, -1, True, False, None, "1", (1,)):
            self.refuses(BadNumber, number, done, TWO, number, None)
            self.refuses(BadPages, None, done, None, number, None)
        for row in [*values_of_any_kind(), ("write", 1, "a", 1), list(ROWS[1]), ("write", True, "a", 1, 2), ("undo", 1, "a", False)]:
            self.refuses(BadRow, row, done, TWO, 1, row)
        for rows in ([], list(ROWS), None, 0, "", ROWS[1], (ROWS[1], None), ROWS + (("end", 1, "x"),), ((),), (list(ROWS[1]),)):
            self.refuses(BadRows, rows, all_done, TWO, rows)
            self.refuses(BadRows, rows, worths_by, rows)
            self.refuses(BadPages, rows, all_done, rows, rows)
        for thing in values_of_any_kind():
            if thing != ():
                self.refuses(BadRows, thing, worths_by, thing)


class Repeating(Checks):
    def test_rows_in_order(self):
        self.same(all_done(empty_pages(2), ROWS), ((8, ()), (6, (("b", 5),))))
        self.same(all_done(rows=(), pages=TWO), TWO)
        self.same([worths_by(ROWS[:k]) for k in (0, 2, 4, 5, 6)], [(), (("b", 5),), (("a", 9), ("b", 5)), (("a", 9),), (("a", 9), ("b", 5))])
        self.same(worths_by(rows=ROWS), (("b", 5),))

    def test_pages_of_every_age(self):
        source = random.Random(1)
        logs = [ROWS]
        for _ in range(6):
            logs.append(tuple(
                source.choice((
                    ("write", 1, source.choice("abc"), source.choice((None, 3)), source.choice((None, 0, 4))),
                    ("undo", 2, source.choice("abc"), source.choice((None, 5))),
                    ("mark", 1, "m"), ("read", 1, "a"),
                ))
                for _ in range(6)
            ))
        for rows in logs:
            for many in (1, 2, 3, 8):
                ages = [all_done(empty_pages(many), rows[:k]) for k in range(len(rows) + 1)]
                wanted = tuple(sorted(worths_of(rows).items()))
                self.same(worths_by(rows), wanted)
                choices = [sorted({pages[k] for pages in ages}) for k in range(many)]
                for pages in product(*choices):
                    once = all_done(pages, rows)
                    self.same(worths_on(once), wanted)
                    self.same(all_done(once, rows), once)
                    self.same(once, ages[-1])


if __name__ == "__main__":
    unittest.main()
