"""Part 9: what a house does, while it is up, when it falls, and when it comes up."""

import random
import unittest
from itertools import combinations

from allshelves.disks import log_of, sectors_of, written
from allshelves.errors import BadBool, BadDeal, BadEnd, BadHouse, BadLost, BadNumber, BadRow, BadWord, BadWorth, Down, Up
from allshelves.houses import begun, come_up, ended, ended_amid, fallen, flushed, is_house, last_mark, marked
from allshelves.houses import new_house, open_deals, read_at, write_at
from allshelves.tables import worths_by, worths_on
from helpers import Checks, values_of_any_kind
from oracle import house_valid
from plain import PlainHouse

NO_DEALS = (-1, True, False, None, "1", (1,), [1], {})
NEW = new_house(2)
# The deals 1 and 2 are open; 1 wrote a twice and b, and read c.
OPEN = begun(begun(NEW, 1, "leader", (0, 1)), 2, "member", (3, 2, 0))
WROTE = write_at(write_at(write_at(read_at(OPEN, 1, "c")[0], 1, "a", 5)[0], 1, "b", -6)[0], 1, "a", 7)[0]
ROWS = (
    ("begin", 1, "leader", (0, 1)), ("begin", 2, "member", (3, 2, 0)), ("read", 1, "c"), ("write", 1, "a", None, 5),
    ("write", 1, "b", None, -6), ("write", 1, "a", 5, 7),
)
UNDOS = (("undo", 1, "a", 5), ("undo", 1, "b", None), ("undo", 1, "a", None), ("end", 1, "dropped"))
WAITED = write_at(WROTE, 2, "c", 1)[0]
MARKED = marked(WROTE, 1, "able", False)
DOWN = fallen(MARKED, ())
UNABLE = come_up(DOWN)
HELD = (("a", 1, "write"), ("b", 1, "write"), ("c", 1, "read"))


def rows_of(house):
    return log_of(house[0])


def all_lost(house, most=3):
    places = range(house[0][1], len(house[0][0]))
    return [lost for many in range(most + 1) for lost in combinations(places, many)]


class New(Checks):
    def test_new(self):
        for many in range(1, 9):
            pages = ((0, ()),) * many
            self.same(new_house(many), (((), 0), pages, (pages, ((), ()), ())))
            self.assertIs(is_house(new_house(many=many)), True)
        for many in (0, 9, -1, True, False, None, "1", [1]):
            self.refuses(BadNumber, many, new_house, many)


class Errors(Checks):
    calls = (
        (begun, 3, "leader", (0, 1)), (read_at, 1, "a"), (write_at, 1, "a", 1), (marked, 1, "m", True), (ended, 1, "kept"),
        (ended_amid, 1, "kept", 0, ()), (flushed, 0), (fallen, ()),
    )

    def test_no_house_comes_first(self):
        for thing in (*values_of_any_kind(), NEW[:2], list(NEW), (NEW[0], NEW[1], ())):
            self.assertIs(is_house(thing), False)
            for call in self.calls:
                self.refuses(BadHouse, thing, call[0], thing, *[None for _ in call[1:]])
            self.refuses(BadHouse, thing, come_up, thing)
            self.refuses(BadHouse, thing, open_deals, thing)
            self.refuses(BadHouse, thing, last_mark, thing, None)

    def test_then_that_it_is_down(self):
        for call in self.calls:
            raised = self.refused(Down, call[0], DOWN, *[None for _ in call[1:]])
            self.assertEqual(vars(raised), {})
            call[0](come_up(DOWN) if call[0] not in (read_at, write_at) else WROTE, *call[1:])
        raised = self.refused(Up, come_up, NEW)
        self.assertEqual(vars(raised), {})

    def test_then_the_deal(self):
        for deal in NO_DEALS:
            for call in self.calls[:6]:
                self.refuses(BadDeal, deal, call[0], WROTE, deal, *[None for _ in call[2:]])
            self.refuses(BadDeal, deal, last_mark, WROTE, deal)
            self.refuses(BadDeal, deal, last_mark, DOWN, deal)


class Begin(Checks):
    def test_begin(self):
        pages = ((0, ()), (0, ()))
        sectors = sectors_of(ROWS[0]) + sectors_of(ROWS[1])
        self.same(OPEN, ((sectors, 0), pages, (pages, ((), ()), ((1, True), (2, True)))))
        low = begun(houses=(2, 1, 0), role="leader", deal=0, house=OPEN)
        self.same(low[2][2], ((0, True), (1, True), (2, True)))
        self.same(rows_of(low)[2], ("begin", 0, "leader", (2, 1, 0)))

    def test_deals_with_a_row(self):
        for house in (OPEN, WROTE, WAITED, MARKED, UNABLE, ended(WROTE, 1, "kept")[0], ended(WROTE, 1, "dropped")[0]):
            self.refuses(BadDeal, 1, begun, house, 1, "no role", ())
            begun(house, 0, "leader", (0, 1))

    def test_no_row(self):
        for role, houses in (
            ("other", (0, 1)), ("leader", (0,)), ("leader", (0, 0)), ("leader", [0, 1]), ("leader", (0, 4)), ("", (0, 1)), (None, None),
            ("member", (0, True)), ("member", (0, 1, 2, 3, 0)), (["leader"], (0, 1)),
        ):
            raised = self.refused(BadRow, begun, OPEN, 3, role, houses)
            self.same(raised.thing, ("begin", 3, role, houses))


class ReadAndWrite(Checks):
    def test_rows(self):
        self.same(rows_of(WROTE), ROWS)
        self.same(WROTE[2][0], ((6, (("a", 7),)), (5, (("b", -6),))))
        self.same(WROTE[1], NEW[1])
        self.same(WROTE[2][1], (HELD, ()))

    def test_answers(self):
        self.same(write_at(WROTE, 1, "a", 9)[1], ("worth", 9))
        self.same(write_at(WROTE, 1, "a", None)[1], ("worth", None))
        self.same(write_at(worth=0, key="d", deal=2, house=WROTE)[1], ("worth", 0))
        self.same([read_at(WROTE, 1, key)[1] for key in "abcd"], [("worth", 7), ("worth", -6), ("worth", None), ("worth", None)])
        self.same(read_at(key="a", deal=1, house=WROTE), (WROTE, ("worth", 7)))

    def test_a_read_row_is_written_once(self):
        once = read_at(OPEN, 1, "d")[0]
        self.same(rows_of(once)[2:], (("read", 1, "d"),))
        self.same(read_at(once, 1, "d"), (once, ("worth", None)))
        # Neither if the deal wrote the key.
        wrote = write_at(OPEN, 1, "d", 3)[0]
        self.same(read_at(wrote, 1, "d"), (wrote, ("worth", 3)))
        # Another deal's row is of no account.
        both = read_at(once, 2, "d")[0]
        self.same(rows_of(both)[2:], (("read", 1, "d"), ("read", 2, "d")))

    def test_write_after_read(self):
        house, answer = write_at(read_at(OPEN, 1, "d")[0], 1, "d", 4)
        self.same(answer, ("worth", 4))
        self.same(rows_of(house)[2:], (("read", 1, "d"), ("write", 1, "d", None, 4)))
        self.same(house[2][1], ((("d", 1, "write"),), ()))

    def test_waits(self):
        self.same(read_at(WROTE, 2, "a")[1], ("waits", (1,)))
        self.same(write_at(WROTE, 2, "a", 3)[1], ("waits", (1,)))
        house, answer = write_at(WROTE, 2, "c", 3)
        self.same(answer, ("waits", (1,)))
        self.same(house[:2] + (house[2][0], house[2][2]), WROTE[:2] + (WROTE[2][0], WROTE[2][2]))
        self.same(house[2][1], (HELD, ((2, "c", "write"),)))
        third = begun(house, 3, "member", (1, 0))
        self.same(read_at(third, 3, "c")[1], ("waits", (2,)))
        self.same(write_at(third, 3, "c", 3)[1], ("waits", (1, 2)))
        self.same(read_at(third, 3, "d")[1], ("worth", None))

    def test_granted_in_the_meantime(self):
        house, granted = ended(WAITED, 1, "kept")
        self.same(granted, (2,))
        self.same(house[2][1], ((("c", 2, "write"),), ()))
        self.same(rows_of(house)[6:], (("end", 1, "kept"),))
        again, answer = write_at(house, 2, "c", 1)
        self.same(answer, ("worth", 1))
        self.same(rows_of(again)[7:], (("write", 2, "c", None, 1),))
        self.same(again[2][1], house[2][1])

    def test_who_may(self):
        dropped = ended(WROTE, 1, "dropped")[0]
        waited = read_at(OPEN, 2, "a")[0]
        self.same(read_at(waited, 1, "a")[1], ("worth", None))
        for house, deal in (
            (WAITED, 2), (MARKED, 1), (UNABLE, 1), (UNABLE, 2), (ended(WROTE, 1, "kept")[0], 1), (dropped, 1), (WROTE, 3), (WROTE, 0), (NEW, 1),
            (come_up(fallen(WROTE, ())), 1), (come_up(ended_amid(WROTE, 1, "dropped", 1, ())), 1), (come_up(fallen(WROTE, (0,))), 1),
        ):
            self.assertIs(is_house(house), True)
            self.refuses(BadDeal, deal, read_at, house, deal, "no word")
            self.refuses(BadDeal, deal, write_at, house, deal, "no word", "no worth")

    def test_errors(self):
        for key in ("", "A", "a" * 11, None, 1, True, ["a"]):
            self.refuses(BadWord, key, read_at, WROTE, 1, key)
            self.refuses(BadWord, key, write_at, WROTE, 1, key, "no worth")
        for worth in (True, False, "1", "-", (1,), [1], {}):
            self.refuses(BadWorth, worth, write_at, WROTE, 1, "a", worth)


class Marked(Checks):
    def test_mark(self):
        self.same(rows_of(MARKED), ROWS + (("mark", 1, "able"),))
        self.same(MARKED[0][1], 0)
        hard = marked(is_forced=True, mark="able", deal=1, house=WROTE)
        self.same(hard[0], (MARKED[0][0], len(MARKED[0][0])))
        self.same(hard[1:], MARKED[1:])

    def test_marks_that_the_log_has(self):
        self.same(marked(MARKED, 1, "able", False), MARKED)
        self.same(marked(MARKED, 1, "able", True), marked(WROTE, 1, "able", True))
        self.same(rows_of(marked(MARKED, 2, "able", False))[7:], (("mark", 2, "able"),))
        self.same(rows_of(marked(MARKED, 1, "kept", False))[7:], (("mark", 1, "kept"),))

    def test_who_may(self):
        dropped = ended(WROTE, 1, "dropped")[0]
        for house, deal in ((WROTE, 2), (WAITED, 2), (UNABLE, 1), (dropped, 1), (come_up(ended_amid(WROTE, 1, "dropped", 2, ())), 1)):
            self.same(rows_of(marked(house, deal, "late", True))[-1], ("mark", deal, "late"))
        for house, deal in ((WROTE, 3), (NEW, 1), (come_up(fallen(WROTE, (0,))), 1), (come_up(fallen(WROTE, (2,))), 2)):
            self.refuses(BadDeal, deal, marked, house, deal, "", 0)

    def test_errors(self):
        for mark in ("", "A", None, 1, ["m"]):
            self.refuses(BadWord, mark, marked, WROTE, 1, mark, 0)
        for is_forced in (0, 1, None, "True", [], (True,)):
            self.refuses(BadBool, is_forced, marked, WROTE, 1, "m", is_forced)

    def test_last_mark(self):
        twice = marked(MARKED, 1, "kept", True)
        self.same([last_mark(house, 1) for house in (OPEN, MARKED, twice)], ["", "able", "kept"])
        self.same(last_mark(deal=2, house=twice), "")
        # Also of one that has ended, and at a house that is down, as far as the log goes.
        self.same([last_mark(ended(twice, 1, end)[0], 1) for end in ("kept", "dropped")], ["kept", "kept"])
        self.same([last_mark(fallen(MARKED, lost), 1) for lost in ((), (len(MARKED[0][0]) - 1,))], ["able", ""])
        for house, deal in ((NEW, 1), (twice, 3), (fallen(MARKED, (1,)), 1)):
            self.refuses(BadDeal, deal, last_mark, house, deal)
        self.same(last_mark(fallen(MARKED, (2,)), 1), "")


class Ended(Checks):
    def test_kept(self):
        house, granted = ended(MARKED, 1, "kept")
        self.same(granted, ())
        self.same(rows_of(house)[7:], (("end", 1, "kept"),))
        self.same(house[0][1], len(house[0][0]))
        self.same(house[2], (MARKED[2][0], ((), ()), ((2, True),)))

    def test_dropped(self):
        house, granted = ended(end="dropped", deal=1, house=WAITED)
        self.same(granted, (2,))
        self.same(rows_of(house), ROWS + UNDOS)
        self.same(house[0][1], len(house[0][0]))
        self.same(house[2], (((9, ()), (8, ())), ((("c", 2, "write"),), ()), ((2, True),)))

    def test_only_what_was_not_taken_back(self):
        for k in range(4):
            house = come_up(ended_amid(WROTE, 1, "dropped", k, ()))
            self.same(rows_of(house), ROWS + UNDOS[:k])
            self.same(ended(house, 1, "dropped")[0], come_up(fallen(ended(come_up(fallen(WROTE, ())), 1, "dropped")[0], ())))

    def test_a_deal_that_waits_is_freed(self):
        house, granted = ended(WAITED, 2, "dropped")
        self.same([granted, house[2][1]], [(), (HELD, ())])

    def test_several_are_granted(self):
        house = begun(begun(WROTE, 3, "member", (1, 0)), 4, "member", (1, 0))
        for deal, key in ((4, "a"), (2, "b"), (3, "a")):
            house = read_at(house, deal, key)[0]
        house, granted = ended(house, 1, "dropped")
        self.same(granted, (4, 2, 3))
        self.same(house[2][1], ((("a", 3, "read"), ("a", 4, "read"), ("b", 2, "read")), ()))
        self.same(read_at(house, 3, "a")[1], ("worth", None))

    def test_errors(self):
        kept = ended(WROTE, 1, "kept")[0]
        for house, deal in ((kept, 1), (ended(WROTE, 1, "dropped")[0], 1), (WROTE, 0), (NEW, 1), (come_up(fallen(WROTE, (0,))), 1)):
            self.refuses(BadDeal, deal, ended, house, deal, None)
            self.refuses(BadDeal, deal, ended_amid, house, deal, None, None, None)
        for end in ("", "keep", "Kept", None, True, 1, ("kept",), ["kept"]):
            self.refuses(BadEnd, end, ended, WROTE, 1, end)
            self.refuses(BadEnd, end, ended_amid, WROTE, 1, end, None, None)
        for k in (1, 2, 3):
            self.refuses(BadEnd, "kept", ended, come_up(ended_amid(WROTE, 1, "dropped", k, ())), 1, "kept")
        self.same(ended(come_up(ended_amid(WROTE, 1, "dropped", 0, ())), 1, "kept")[1], ())

    def test_cut_after_each_row_with_all_that_can_be_lost(self):
        kept = (("end", 1, "kept"),)
        for start, end, rows in ((WROTE, "dropped", UNDOS), (MARKED, "dropped", UNDOS), (UNABLE, "dropped", UNDOS), (WROTE, "kept", kept)):
            whole = start[0]
            for k in range(len(rows) + 1):
                whole = written(whole, rows[k - 1]) if k > 0 else whole
                plain = (whole, start[1], None)
                for lost in all_lost(plain, 2):
                    house = ended_amid(start, 1, end, k, lost)
                    self.assertIs(house[2], None)
                    left = rows_of(house)
                    self.same(left, log_of(whole)[:len(left)])
                    self.same(house[0][1], sum(len(sectors_of(row)) for row in left))
                    up = come_up(house)
                    if ("end", 1, end) in left:
                        self.assertEqual(len(left), len(log_of(whole)))
                    elif ("begin", 1, "leader", (0, 1)) in left:
                        again = ended(up, 1, end)[0]
                        self.same(worths_on(again[2][0]), worths_by(rows_of(again)))
                        if len(left) >= len(rows_of(start)):
                            self.same(rows_of(again), rows_of(start) + rows)
                for lost in ((len(whole[0]),), (-1,)):
                    self.refuses(BadLost, lost, ended_amid, start, 1, end, k, lost)
            for k in (-1, len(rows) + 1, True, False, None, "0", (0,)):
                self.refuses(BadNumber, k, ended_amid, start, 1, end, k, None)
        hard = marked(WROTE, 1, "m", True)
        safe = hard[0][1]
        for lost in ((safe - 1,), [safe], (safe + 1, safe), (safe, safe), (True,), None, (None,), safe):
            self.refuses(BadLost, lost, ended_amid, hard, 1, "dropped", 2, lost)
        self.same(ended_amid(lost=(safe,), k=2, end="dropped", deal=1, house=hard)[0][1], safe)


class FallAndRise(Checks):
    def test_flush(self):
        house = flushed(WROTE, 0)
        size = len(WROTE[0][0])
        self.same(house, ((WROTE[0][0], size), ((6, (("a", 7),)), (0, ())), WROTE[2]))
        self.same(flushed(k=1, house=house)[1], WROTE[2][0])
        self.same(flushed(house, 0), house)
        for k in (-1, 2, True, False, None, "0", (0,)):
            self.refuses(BadNumber, k, flushed, WROTE, k)

    def test_fall(self):
        self.same(DOWN, ((MARKED[0][0], len(MARKED[0][0])), MARKED[1], None))
        sectors = MARKED[0][0]
        lost = fallen(lost=(4, 6), house=MARKED)
        self.same(lost[0][0], sectors[:4] + ("",) + sectors[5:6] + ("",) + sectors[7:])
        self.same(rows_of(lost), ROWS[:2])
        self.same(lost[0][1], 4)
        self.same(come_up(lost)[0], (sectors[:4], 4))
        for lost in ((len(sectors),), (-1,), [0], (1, 0), (0, 0), None, 0, "", (True,), ("0",)):
            self.refuses(BadLost, lost, fallen, MARKED, lost)
        self.refuses(BadLost, (0, 1), fallen, flushed(MARKED, 0), (0, 1))
        self.same(fallen(flushed(MARKED, 0), ())[1][0], (6, (("a", 7),)))

    def test_come_up(self):
        self.same(UNABLE[0], DOWN[0])
        self.same(UNABLE[2], (WROTE[2][0], (HELD, ()), ((1, False), (2, False))))
        self.same(come_up(house=fallen(WAITED, ()))[2][1], (HELD, ()))
        self.same(come_up(fallen(write_at(OPEN, 1, "c", 1)[0], ()))[2][1], ((("c", 1, "write"),), ()))
        self.same(come_up(fallen(ended(WROTE, 1, "kept")[0], ()))[2], (((6, (("a", 7),)), (5, (("b", -6),))), ((), ()), ((2, False),)))

    def test_granted_keys_without_a_row_are_not_held(self):
        house = ended(WAITED, 1, "kept")[0]
        self.same(house[2][1], ((("c", 2, "write"),), ()))
        self.same(come_up(fallen(house, ()))[2][1], ((), ()))

    def test_pages_of_every_age(self):
        ages = [NEW[1], flushed(read_at(OPEN, 1, "c")[0], 0)[1]]
        house = OPEN
        for row in ROWS[2:]:
            house = read_at(house, 1, row[2])[0] if row[0] == "read" else write_at(house, 1, row[2], row[4])[0]
            ages.append(house[2][0])
        safe = (MARKED[0][0], len(MARKED[0][0]))
        for first in ages:
            for second in ages:
                house = (safe, (first[0], second[1]), None)
                self.assertIs(is_house(house), True)
                self.same(come_up(house)[2][0], MARKED[2][0])

    def test_open_deals(self):
        self.same(open_deals(WAITED), ((1, "leader", (0, 1), "", True), (2, "member", (3, 2, 0), "", True)))
        for house in (UNABLE, DOWN, fallen(UNABLE, ())):
            self.same(open_deals(house=house), ((1, "leader", (0, 1), "able", False), (2, "member", (3, 2, 0), "", False)))
        self.same(open_deals(MARKED)[0], (1, "leader", (0, 1), "able", True))
        self.same(open_deals(fallen(MARKED, (2,))), ((1, "leader", (0, 1), "", False),))
        self.same(open_deals(ended(WROTE, 1, "kept")[0]), ((2, "member", (3, 2, 0), "", True),))
        self.same([open_deals(NEW), open_deals(fallen(NEW, ()))], [(), ()])

    def test_falling_and_coming_up_again(self):
        for house in (WROTE, WAITED, MARKED, ended(WROTE, 1, "dropped")[0], ended(WAITED, 1, "kept")[0]):
            for lost in all_lost(house, 2):
                up = come_up(fallen(house, lost))
                self.same(come_up(fallen(up, ())), up)
                self.assertIs(is_house(up), True)
        self.refuses(BadLost, (0,), fallen, UNABLE, (0,))


class AllSequences(Checks):
    """[9.5], with a second house that is written down as the document says."""

    def drawn(self, source, house, plain):
        """Does one thing that is drawn at both houses, and returns the house."""
        deal, key, worth = source.randrange(5), source.choice("abk"), source.choice((None, 0, -3, 123456))
        word = source.choice(("begin", "read", "write", "write", "mark", "end", "amid", "flush", "fall", "up", "up"))
        if (word == "up") == plain.is_up:
            return house
        if word == "up":
            plain.rise()
            return come_up(house)
        if word == "fall":
            lost = source.choice(all_lost(house, 2))
            plain.fall(lost)
            return fallen(house, lost)
        if word == "flush":
            plain.force()
            k = source.randrange(len(plain.pages))
            plain.pages[k] = (plain.table[k][0], dict(plain.table[k][1]))
            return flushed(house, k)
        return self.drawn_for_deal(source, house, plain, word, deal, key, worth)

    def drawn_for_deal(self, source, house, plain, word, deal, key, worth):
        if word == "begin" and not plain.has_begun(deal):
            plain.add(("begin", deal, "member", (1, 0)))
            plain.ables[deal] = True
            return begun(house, deal, "member", (1, 0))
        may_use = plain.ables.get(deal) and not plain.marks(deal) and deal not in [wait[0] for wait in plain.waits]
        if word in ("read", "write"):
            if not may_use:
                self.refuses(BadDeal, deal, read_at, house, deal, key)
                return house
            house, answer = read_at(house, deal, key) if word == "read" else write_at(house, deal, key, worth)
            self.same(answer, plain.use(deal, key, word, worth))
            return house
        if word == "mark" and plain.has_begun(deal):
            mark, is_forced = source.choice("mn"), source.random() < 0.3
            if mark not in plain.marks(deal):
                plain.add(("mark", deal, mark))
            if is_forced:
                plain.force()
            return marked(house, deal, mark, is_forced)
        if deal in plain.ables and word in ("end", "amid") and source.random() < 0.4:
            return self.drawn_end(source, house, plain, word, deal)
        return house

    def drawn_end(self, source, house, plain, word, deal):
        is_undone = any(row[0] == "undo" for row in plain.rows_of(deal))
        end = "dropped" if is_undone else source.choice(("kept", "dropped"))
        rows = plain.ending(deal, end)
        k = len(rows) if word == "end" else source.randrange(len(rows) + 1)
        for row in rows[:k]:
            plain.add(row)
        if word == "end":
            plain.force()
            del plain.ables[deal]
            waiting = [wait[0] for wait in plain.waits if wait[0] != deal]
            plain.free(deal)
            house, granted = ended(house, deal, end)
            self.assertEqual(sorted(granted), sorted(set(waiting) - {wait[0] for wait in plain.waits}))
            return house
        lost = tuple(at for at in range(plain.safe, len(plain.sectors)) if source.random() < 0.2)
        plain.fall(lost)
        return ended_amid(house, deal, end, k, lost)

    def check(self, house, plain):
        self.same(house, plain.house())
        self.assertIs(is_house(house), True)
        self.assertTrue(house_valid(house))
        rows = rows_of(house)
        if house[2] is not None:
            table, (held, _), deals = house[2]
            self.same(worths_on(table), worths_by(rows))
            begins, ends = [[row[1] for row in rows if row[0] == word] for word in ("begin", "end")]
            self.same([deal for deal, _ in deals], sorted(set(begins) - set(ends)))
            uses = {(row[2], row[1]) for row in rows if row[0] in ("read", "write") and row[1] not in ends}
            self.assertLessEqual(uses, {hold[:2] for hold in held})

    def test_drawn_sequences(self):
        source = random.Random(4)
        for _ in range(25):
            many = source.choice((1, 2, 8))
            house, plain, safe_rows = new_house(many), PlainHouse(many), ()
            for _ in range(60):
                house = self.drawn(source, house, plain)
                self.check(house, plain)
                rows = rows_of(house)
                self.same(rows[:len(safe_rows)], safe_rows)
                at = 0
                for k, row in enumerate(rows):
                    at += len(sectors_of(row))
                    if at <= house[0][1]:
                        safe_rows = rows[:k + 1]


if __name__ == "__main__":
    unittest.main()
