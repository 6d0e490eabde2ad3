"""Part 10: what can happen in a store, and what it raises."""

import unittest
from itertools import combinations

from allshelves.disks import log_of, sectors_of
from allshelves.errors import BadDeal, BadEvent, BadLost, BadNumber, BadPlace, BadProtocol, BadStore, BadWord, BadWorth, Down, TooLate, Up
from allshelves.houses import fallen, new_house
from allshelves.protocols import known, read_protocol
from allshelves.stores import amid, can_fire, comes_up, ends_of, falls, fired, flush, force, hears, is_store, new_store, opened, read
from allshelves.stores import standing_of, worths_at, write
from draws import HASTY, LOOSE
from helpers import Checks, values_of_any_kind

TWO, ONE, LAZY = known("tworounds"), known("oneround"), known("lazy")
NEW = new_store(TWO, 4, 2)
NO_DEALS = (-1, 2, True, False, None, "0", (0,), [0], {})
NO_HOUSES = (-1, 4, True, False, None, "0", (0,), [0], {}, 10 ** 39)
FIRST = (0, (), True, -1, True, ())
# The deal 0 is led by 2, with 0 as its other house; the deal 1 by 0, with 3 and 2.
BEGUN = opened(opened(NEW, (2, 0)), (0, 3, 2))
WROTE = write(write(write(BEGUN, 0, 2, "a", 5)[0], 0, 0, "b", -7)[0], 1, 3, "c", 1)[0]
ASKED = fired(WROTE, 0, 2, 0)
HEARD = fired(hears(ASKED, 0, 0, 2, "ask"), 0, 0, 0)
YES = fired(HEARD, 0, 0, 0)
KEPT = fired(hears(YES, 0, 2, 0, "yes"), 0, 2, 0)
DONE = fired(hears(KEPT, 0, 0, 2, "keep"), 0, 0, 0)


def log(store, house):
    return log_of(store[1][house][0])


def unsafe(store, house):
    (sectors, safe), _, _ = store[1][house]
    return tuple(range(safe, len(sectors)))


def all_lost(store, house):
    places = unsafe(store, house)
    return [lost for many in range(len(places) + 1) for lost in combinations(places, many)]


def many_sectors(rows):
    return sum(len(sectors_of(row)) for row in rows)


def rows_left(rows, start, lost):
    """The rows, with sectors from the start on, that are wholly before the first lost sector."""
    ends = [start + many_sectors(rows[:k + 1]) for k in range(len(rows))]
    return tuple(row for row, end in zip(rows, ends) if lost == () or end <= lost[0])


def told(store):
    return tuple(event[1:] for event in store[4] if event[0] == "told")


class New(Checks):
    def test_new(self):
        for n in (2, 3, 4):
            for many in range(1, 9):
                self.same(new_store(many=many, n=n, protocol=ONE), (ONE, (new_house(many),) * n, (), (), ()))
        self.assertIs(is_store(NEW), True)

    def test_errors(self):
        for thing in (*values_of_any_kind(), TWO[:1], TWO[::-1]):
            self.refuses(BadProtocol, thing, new_store, thing, None, None)
        for n in (1, 0, 5, -1, True, None, "2", (2,)):
            self.refuses(BadNumber, n, new_store, TWO, n, None)
        for many in (0, 9, -1, True, None, "1", (1,)):
            self.refuses(BadNumber, many, new_store, TWO, 2, many)


class Opened(Checks):
    def test_opened(self):
        self.same(BEGUN[2], (((2, 0), (FIRST, FIRST)), ((0, 3, 2), (FIRST, FIRST, FIRST))))
        self.same(BEGUN[3:], ((), ()))
        rows = [("begin", 0, "leader", (2, 0)), ("begin", 0, "member", (2, 0))]
        other = [("begin", 1, "leader", (0, 3, 2)), ("begin", 1, "member", (0, 3, 2))]
        self.same([log(BEGUN, house) for house in range(4)], [(rows[1], other[0]), (), (rows[0], other[1]), (other[1],)])
        self.same([house[2][2] for house in BEGUN[1]], [((0, True), (1, True)), (), ((0, True), (1, True)), ((1, True),)])
        self.same([house[0][1] for house in BEGUN[1]], [0, 0, 0, 0])

    def test_houses(self):
        for houses in ((0, 1), (3, 2), (1, 0, 3), (3, 1, 2, 0)):
            self.same(opened(houses=houses, store=NEW)[2], ((houses, (FIRST,) * len(houses)),))
        for houses in ((), (0,), (0, 0), (0, 1, 0), (0, 4), (-1, 0), [0, 1], (0, True), (0, 1, 2, 3, 0), None, 0, "01", ((0, 1),), (0, None)):
            self.refuses(BadPlace, houses, opened, NEW, houses)
        self.refuses(BadPlace, (0, 2), opened, new_store(TWO, 2, 1), (0, 2))

    def test_a_house_that_is_down(self):
        store = falls(NEW, 1, ())
        for houses in ((0, 1), (1, 0), (0, 2, 1)):
            raised = self.refused(Down, opened, store, houses)
            self.assertEqual(vars(raised), {})
        self.refuses(BadPlace, (1, 4), opened, store, (1, 4))
        self.assertEqual(len(opened(store, (0, 2))[2]), 1)

    def test_a_state_0_with_an_end(self):
        store = opened(new_store(HASTY, 3, 1), (1, 2, 0))
        ended = (0, (), True, -1, True, ("kept",))
        self.same(store[2], (((1, 2, 0), (ended, FIRST, FIRST)),))
        self.same(store[4], (("told", 0, 1, "kept"),))
        self.same([log(store, house)[1:] for house in range(3)], [(), (("end", 0, "kept"),), ()])
        self.same([house[2][2] for house in store[1]], [((0, True),), (), ((0, True),)])
        self.same([unsafe(store, house) != () for house in range(3)], [True, False, True])
        # All deals have begun before the first end is told.
        both = read_protocol("leader\nstate dropped\nup 0\nmember\nstate kept\nup 0")
        store = opened(new_store(both, 2, 1), (1, 0))
        self.same(store[4], (("told", 0, 1, "dropped"), ("told", 0, 0, "kept")))
        self.same(ends_of(store, 0), (("dropped",), ("kept",)))
        # Coming to the state 0 again tells nothing, and there is nothing left to end.
        again = fired(opened(new_store(HASTY, 2, 1), (0, 1)), 0, 0, 0)
        self.same(again[4], (("told", 0, 0, "kept"),))
        self.same(log(again, 0)[1:], (("end", 0, "kept"), ("mark", 0, "done")))


class ReadAndWrite(Checks):
    def test_answers_and_past(self):
        self.same(WROTE[4], (("write", 0, 2, "a", 5), ("write", 0, 0, "b", -7), ("write", 1, 3, "c", 1)))
        store, answer = read(WROTE, 0, 2, "a")
        self.same(answer, ("worth", 5))
        self.same(store[4], WROTE[4] + (("read", 0, 2, "a", 5),))
        self.same(store[:4], WROTE[:4])
        store, answer = read(key="x", house=3, deal=1, store=WROTE)
        self.same([answer, store[4][3]], [("worth", None), ("read", 1, 3, "x", None)])
        self.same(log(store, 3)[2:], (("read", 1, "x"),))
        store, answer = write(worth=None, key="c", house=3, deal=1, store=WROTE)
        self.same([answer, store[4][3], worths_at(store, 3)], [("worth", None), ("write", 1, 3, "c", None), ()])

    def test_waits(self):
        for store, answer in (read(WROTE, 1, 2, "a"), write(WROTE, 1, 2, "a", 6)):
            self.same(answer, ("waits", (0,)))
            self.same(store[4], WROTE[4])
            self.same([log(store, house) for house in range(4)], [log(WROTE, house) for house in range(4)])
            self.assertEqual(len(store[1][2][2][1][1]), 1)
            for call in ((read, "b"), (read, "a"), (write, "c", 1)):
                self.assertEqual(self.refused(TooLate, call[0], store, 1, 2, *call[1:]).deal, 1)
            # Only there, and only this deal.
            self.same(read(store, 1, 0, "z")[1], ("worth", None))
            self.same(read(store, 0, 2, "a")[1], ("worth", 5))

    def test_granted_at_an_end(self):
        store = write(WROTE, 1, 2, "a", 6)[0]
        dropped = fired(store, 0, 2, 1)
        self.same(dropped[1][2][2][1], ((("a", 1, "write"),), ()))
        self.same(dropped[4][3:], (("told", 0, 2, "dropped"),))
        store, answer = write(dropped, 1, 2, "a", 6)
        self.same([answer, log(store, 2)[-1]], [("worth", 6), ("write", 1, "a", None, 6)])

    def test_too_late(self):
        cases = [
            (DONE, 0, 2), (DONE, 0, 0), (ASKED, 0, 2), (YES, 0, 0), (falls(WROTE, 2, ()), 0, 2), (comes_up(falls(HEARD, 2, ()), 2), 0, 2),
            (fired(WROTE, 0, 0, 1), 0, 0), (comes_up(falls(WROTE, 3, ()), 3), 1, 3),
        ]
        for store, deal, house in cases:
            for call in ((read, "q"), (write, "q", 1)):
                raised = self.refused(TooLate, call[0], store, deal, house, *call[1:])
                self.assertEqual(vars(raised), {"deal": deal})
        # In the state 1, before it has said that it is able, a member still reads.
        self.same(read(HEARD, 0, 0, "q")[1], ("worth", None))

    def test_a_mark_is_too_late(self):
        store = fired(opened(new_store(LOOSE, 2, 1), (0, 1)), 0, 1, 1)
        self.same([store[2][0][1][1][0], store[2][0][1][1][3], log(store, 1)[1:3]], [3, -1, (("mark", 0, "no"), ("end", 0, "dropped"))])
        marks = read_protocol("leader\nstate\non timer write m go 0\nup 0\nup m 0\nmember\nstate\nup 0")
        store = opened(new_store(marks, 2, 1), (0, 1))
        self.same(read(store, 0, 0, "a")[1], ("worth", None))
        self.assertEqual(self.refused(TooLate, read, fired(store, 0, 0, 0), 0, 0, "a").deal, 0)
        # A house that is down has no state, and no end.
        self.assertEqual(self.refused(TooLate, read, falls(store, 0, ()), 0, 0, "a").deal, 0)

    def test_errors(self):
        for deal in NO_DEALS:
            self.refuses(BadDeal, deal, read, WROTE, deal, None, None)
            self.refuses(BadDeal, deal, write, WROTE, deal, None, None, None)
        for house in (1, 3, *NO_HOUSES):
            self.refuses(BadPlace, house, read, DONE, 0, house, None)
            self.refuses(BadPlace, house, write, DONE, 0, house, None, None)
        for key in ("", "A", None, 1, ["a"]):
            self.refuses(BadWord, key, read, DONE, 0, 2, key)
            self.refuses(BadWord, key, write, DONE, 0, 2, key, "no")
        for worth in ("1", True, False, (1,), []):
            self.refuses(BadWorth, worth, write, DONE, 0, 2, "a", worth)


class Fired(Checks):
    def test_letters_and_states(self):
        self.same(ASKED[3], ((0, 0, 1, "ask"),))
        self.same(ASKED[2][0][1], ((1, (), True, 0, True, ()), FIRST))
        asked = fired(ASKED, 1, 0, 0)
        self.same(asked[3], ((0, 0, 1, "ask"), (1, 0, 1, "ask"), (1, 0, 2, "ask")))
        self.same(YES[3], ((0, 0, 1, "ask"), (0, 1, 0, "yes")))
        self.same(YES[2][0][1][1], (2, ((0, "ask"),), True, 0, True, ()))
        # A letter that was sent is not sent again.
        what = fired(fired(YES, 0, 0, 2), 0, 0, 2)
        self.same(what[3], ((0, 0, 1, "ask"), (0, 1, 0, "what"), (0, 1, 0, "yes")))

    def test_can_fire(self):
        self.same([can_fire(BEGUN, 0, 2), can_fire(BEGUN, 0, 0), can_fire(ASKED, 0, 2), can_fire(HEARD, 0, 0)], [(0, 1), (1,), (2,), (0, 1)])
        self.same(can_fire(house=0, deal=0, store=hears(ASKED, 0, 0, 2, "ask")), (0, 1))
        self.same([can_fire(falls(BEGUN, 2, ()), 0, 2), can_fire(falls(BEGUN, 2, ()), 1, 2)], [(), ()])
        self.same([can_fire(KEPT, 0, 2), can_fire(YES, 0, 0)], [(), (2,)])
        for deal in NO_DEALS:
            self.refuses(BadDeal, deal, can_fire, BEGUN, deal, None)
        for house in (1, 3, *NO_HOUSES):
            self.refuses(BadPlace, house, can_fire, BEGUN, 0, house)

    def test_each_needs_all(self):
        store = opened(new_store(TWO, 3, 1), (1, 0, 2))
        store = fired(store, 0, 1, 0)
        for house in (0, 2):
            store = fired(fired(hears(store, 0, house, 1, "ask"), 0, house, 0), 0, house, 0)
        one = hears(store, 0, 1, 2, "yes")
        self.same([can_fire(store, 0, 1), can_fire(one, 0, 1), can_fire(hears(one, 0, 1, 0, "yes"), 0, 1)], [(2,), (2,), (0, 2)])

    def test_not_able_while_it_waits(self):
        store = write(WROTE, 1, 2, "a", 6)[0]
        store = hears(fired(store, 1, 0, 0), 1, 2, 0, "ask")
        store = fired(store, 1, 2, 0)
        self.same([can_fire(store, 1, 2), can_fire(store, 1, 3), can_fire(fired(store, 0, 2, 1), 1, 2)], [(1,), (1,), (0, 1)])
        self.refuses(BadNumber, 0, fired, store, 1, 2, 0)

    def test_not_able_after_a_fall(self):
        store = comes_up(falls(opened(new_store(LOOSE, 2, 1), (0, 1)), 0, ()), 0)
        self.same([can_fire(store, 0, 0), store[2][0][1][0][:3]], [(1, 2), (0, (), False)])

    def test_marks(self):
        # "go" is written and not forced; "out" is forced; the rest of the log with it.
        store = opened(new_store(LOOSE, 2, 1), (0, 1))
        went = fired(store, 0, 0, 0)
        self.same([log(went, 0)[1:], went[1][0][0][1]], [(("mark", 0, "go"),), 0])
        out = fired(store, 0, 0, 2)
        self.same([log(out, 0)[1:], unsafe(out, 0)], [(("mark", 0, "out"), ("end", 0, "dropped")), ()])
        # A rule with the cause able marks the length of the log before it.
        self.same([went[2][0][1][0], standing_of(went, 0)[0][0][2:4]], [(1, (), True, 0, True, ()), (("go",), 0)])

    def test_marks_that_the_log_has(self):
        ready = read_protocol(
            "leader\nstate\non timer write m go 0\non timer force m go 0\non able write n go 0\nup 0\nup m 0\nup n 0\nmember\nstate\nup 0"
        )
        store = fired(opened(new_store(ready, 2, 1), (1, 0)), 0, 1, 0)
        self.same(fired(store, 0, 1, 0), store)
        hard = fired(store, 0, 1, 1)
        self.same([log(hard, 1), unsafe(hard, 1), unsafe(store, 1) != ()], [log(store, 1), (), True])
        able = fired(store, 0, 1, 2)
        self.same([able[2][0][1][0][3], fired(able, 0, 1, 2)], [1, able])
        self.same(standing_of(fired(able, 0, 1, 1), 0)[0][0][2:6], (("m", "n"), 2, True, 1))

    def test_a_begin_row_that_a_fall_has_lost(self):
        store = comes_up(falls(WROTE, 0, (0, 1)), 0)
        self.same([log(store, 0), store[1][0][2][2]], [(), ()])
        # tworounds: both are dropped now, and nothing is open that could be ended.
        self.same([store[2][0][1][1], told(store)], [(3, (), False, -1, False, ("dropped",)), ((0, 0, "dropped"), (1, 0, "dropped"))])
        back = comes_up(falls(opened(new_store(LOOSE, 2, 1), (1, 0)), 1, (0,)), 1)
        self.same([log(back, 1), back[1][1][2][2], can_fire(back, 0, 1)], [(), (), (1, 2)])
        # A rule without a mark writes nothing; one with a mark writes the begin row again.
        self.same(log(fired(back, 0, 1, 1), 1), ())
        # It is open there again, and ended if the rule leads to an end.
        rows = (("begin", 0, "leader", (1, 0)), ("mark", 0, "out"), ("end", 0, "dropped"))
        self.same([log(fired(back, 0, 1, 2), 1), fired(back, 0, 1, 2)[1][1][2][2]], [rows, ()])
        slow = read_protocol("leader\nstate\non timer write m go 0\nup 0\nup m 0\nmember\nstate\non timer write m go 0\nup 0\nup m 0")
        for places, role in (((1, 0), "leader"), ((0, 1), "member")):
            store = comes_up(falls(opened(new_store(slow, 2, 1), places), 1, (0, 1)), 1)
            self.same([log(store, 1), store[1][1][2][2]], [(), ()])
            store = fired(store, 0, 1, 0)
            self.same(log(store, 1), (("begin", 0, role, places), ("mark", 0, "m")))
            self.same(store[1][1][2][1:], (((), ()), ((0, False),)))
            self.assertEqual(self.refused(TooLate, read, store, 0, 1, "a").deal, 0)
            self.same(fired(store, 0, 1, 0), store)

    def test_ends(self):
        self.same([ends_of(KEPT, 0), ends_of(DONE, 0), ends_of(DONE, 1)], [(("kept",), ()), (("kept",), ("kept",)), ((), (), ())])
        self.same(ends_of(deal=0, store=BEGUN), ((), ()))
        self.same(DONE[4][3:], (("told", 0, 2, "kept"), ("told", 0, 0, "kept")))
        self.same([log(DONE, 2)[-2:], log(DONE, 0)[-3:]], [
            (("mark", 0, "kept"), ("end", 0, "kept")), (("mark", 0, "yes"), ("mark", 0, "kept"), ("end", 0, "kept")),
        ])
        self.same([unsafe(DONE, 2), unsafe(DONE, 0)], [(), ()])
        self.same([worths_at(DONE, house) for house in range(4)], [(("b", -7),), (), (("a", 5),), (("c", 1),)])
        dropped = fired(WROTE, 0, 0, 1)
        self.same(log(dropped, 0)[2:], (("write", 0, "b", None, -7), ("mark", 0, "dropped"), ("undo", 0, "b", None), ("end", 0, "dropped")))
        self.same([worths_at(dropped, 0), told(dropped)], [(), ((0, 0, "dropped"),)])

    def test_ends_are_told_once(self):
        store = hears(fired(fired(KEPT, 0, 0, 2), 0, 0, 2), 0, 2, 0, "what")
        again = fired(store, 0, 2, 0)
        self.same([told(again), log(again, 2), again[2]], [told(KEPT), log(KEPT, 2), store[2]])
        store = comes_up(falls(KEPT, 2, ()), 2)
        # The deal 1 has no mark there, and is dropped.
        self.same(told(store), ((0, 2, "kept"), (1, 2, "dropped")))
        self.same(told(comes_up(falls(store, 2, ()), 2)), told(store))

    def test_errors(self):
        for deal in NO_DEALS:
            self.refuses(BadDeal, deal, fired, BEGUN, deal, None, None)
        for house in (1, 3, *NO_HOUSES):
            self.refuses(BadPlace, house, fired, BEGUN, 0, house, None)
        for r in (2, -1, True, False, None, "0", (0,), 10 ** 39):
            self.refuses(BadNumber, r, fired, BEGUN, 0, 2, r)
        self.refuses(BadNumber, 0, fired, BEGUN, 0, 0, 0)
        self.refuses(BadNumber, 1, fired, falls(BEGUN, 2, ()), 0, 2, 1)
        self.same(fired(r=0, house=2, deal=0, store=BEGUN)[3], ((0, 0, 1, "ask"),))


class Hears(Checks):
    def test_hears(self):
        store = hears(kind="ask", sender=2, house=0, deal=0, store=ASKED)
        self.same(store[2][0][1][1], (0, ((0, "ask"),), True, -1, True, ()))
        self.same(store[:2] + store[3:], ASKED[:2] + ASKED[3:])

    def test_late_twice_and_after_a_fall(self):
        self.refuses(BadWord, "ask", hears, HEARD, 0, 0, 2, "ask")
        # Late: the letter is heard where nothing waits for it any more.
        store = fired(ASKED, 0, 0, 1)
        self.same(hears(store, 0, 0, 2, "ask")[2][0][1][1], (3, ((0, "ask"),), True, -1, True, ("dropped",)))
        down = falls(YES, 0, ())
        self.same(down[2][0][1][1][:2], (-1, ()))
        self.refuses(BadWord, "ask", hears, down, 0, 0, 2, "ask")
        up = comes_up(down, 0)
        self.same(hears(up, 0, 0, 2, "ask")[2][0][1][1], (2, ((0, "ask"),), False, 0, True, ()))

    def test_of_its_deal_only(self):
        store = fired(ASKED, 1, 0, 0)
        self.same(hears(store, 1, 2, 0, "ask")[2][1][1][2][1], ((0, "ask"),))
        self.refuses(BadWord, "ask", hears, store, 0, 2, 0, "ask")
        self.refuses(BadWord, "ask", hears, store, 1, 0, 2, "ask")

    def test_errors(self):
        for deal in NO_DEALS:
            self.refuses(BadDeal, deal, hears, ASKED, deal, None, None, None)
        for house in (1, 3, *NO_HOUSES):
            self.refuses(BadPlace, house, hears, ASKED, 0, house, None, None)
            self.refuses(BadPlace, house, hears, ASKED, 0, 0, house, None)
        self.refuses(BadPlace, 1, hears, ASKED, 0, 1, 3, None)
        for kind in ("yes", "", "asks", None, True, 0, ("ask",), ["ask"], {}):
            self.refuses(BadWord, kind, hears, ASKED, 0, 0, 2, kind)
        self.refuses(BadWord, "ask", hears, ASKED, 0, 0, 0, "ask")


class FallsAndComesUp(Checks):
    def test_in_all_deals(self):
        store = falls(store=YES, house=0, lost=())
        self.same(store[1][0], fallen(YES[1][0], ()))
        self.same(store[2][0][1], (YES[2][0][1][0], (-1, (), False, 0, True, ())))
        self.same(store[2][1][1], ((-1, (), False, -1, False, ()),) + YES[2][1][1][1:])
        self.same(store[3:], YES[3:])

    def test_whole(self):
        # The mark "go" of the leader may be lost with what was written before it.
        went = fired(write(opened(new_store(LOOSE, 2, 1), (0, 1)), 0, 0, "a", 5)[0], 0, 0, 0)
        for lost in all_lost(went, 0):
            store = falls(went, 0, lost)
            marks = standing_of(store, 0)[0][0][2]
            self.same([marks, store[2][0][1][0]], [("go",) if lost == () else (), (-1, (), False, 0, lost == (), ())])
            self.same(store[1][0], fallen(went[1][0], lost))

    def test_each_lot_of_lost_sectors(self):
        for house in range(4):
            for lost in all_lost(ASKED, house):
                store = falls(ASKED, house, lost)
                self.same([is_store(store), store[1][house]], [True, fallen(ASKED[1][house], lost)])
                up = comes_up(store, house)
                self.same([is_store(up), worths_at(store, house)], [True, worths_at(up, house)])

    def test_comes_up(self):
        store = comes_up(house=0, store=falls(YES, 0, ()))
        # The deal 0 waits for its end in the state of "yes"; the deal 1 is dropped.
        self.same([seats[1][1 if deal == 0 else 0] for deal, seats in enumerate(store[2])], [
            (2, (), False, 0, True, ()), (3, (), False, -1, False, ("dropped",)),
        ])
        self.same([told(store), store[1][0][2][2]], [((1, 0, "dropped"),), ((0, False),)])
        self.same(log(store, 0), log(YES, 0) + (("end", 1, "dropped"),))
        self.same(unsafe(store, 0), ())

    def test_endings_of_several_deals_in_order(self):
        store = opened(opened(opened(new_store(TWO, 3, 1), (1, 0)), (2, 0)), (0, 2))
        for deal, key in ((2, "a"), (0, "b"), (1, "c"), (0, "d")):
            store = write(store, deal, 0, key, 4)[0]
        up = comes_up(falls(store, 0, ()), 0)
        self.same(log(up, 0)[7:], (
            ("undo", 0, "d", None), ("undo", 0, "b", None), ("end", 0, "dropped"), ("undo", 1, "c", None), ("end", 1, "dropped"),
            ("undo", 2, "a", None), ("end", 2, "dropped"),
        ))
        self.same(told(up), ((0, 0, "dropped"), (1, 0, "dropped"), (2, 0, "dropped")))
        self.same(up[1][0][2], (((13, ()),), ((), ()), ()))

    def test_an_ending_is_done_again(self):
        # The end row is lost: coming up, the deal is ended again, and nothing new is told.
        cut = amid(hears(KEPT, 0, 0, 2, "keep"), ("fire", 0, 0, 0), 0, ())
        self.same([told(cut), log(cut, 0)[-1]], [((0, 2, "kept"), (0, 0, "kept")), ("mark", 0, "kept")])
        up = comes_up(cut, 0)
        self.same(told(up), told(cut) + ((1, 0, "dropped"),))
        self.same(log(up, 0)[-2:], (("end", 0, "kept"), ("end", 1, "dropped")))

    def test_dropped_where_there_is_an_undo_row(self):
        # "m" leads up to a state with the end kept, but the first ending has begun to drop.
        turn = read_protocol("leader\nstate\non timer write m go 1\nstate dropped\nstate kept\nup 0\nup m 2\nmember\nstate\nup 0")
        store = write(write(opened(new_store(turn, 2, 1), (0, 1)), 0, 0, "a", 1)[0], 0, 0, "b", 2)[0]
        for k, rest in ((0, [("end", 0, "kept")]), (1, [("undo", 0, "a", None), ("end", 0, "dropped")])):
            up = comes_up(amid(store, ("fire", 0, 0, 0), k, ()), 0)
            self.same([list(log(up, 0)[4 + k:]), told(up)], [rest, ((0, 0, "dropped"), (0, 0, "kept"))])
            self.same([ends_of(up, 0)[0], worths_at(up, 0)], [("dropped", "kept"), (("a", 1), ("b", 2)) if k == 0 else ()])

    def test_errors(self):
        for house in NO_HOUSES:
            self.refuses(BadPlace, house, falls, YES, house, None)
            self.refuses(BadPlace, house, comes_up, YES, house)
        down = falls(YES, 0, ())
        self.assertEqual(vars(self.refused(Down, falls, down, 0, None)), {})
        self.assertEqual(vars(self.refused(Up, comes_up, down, 1)), {})
        last = unsafe(ASKED, 0)[-1]
        for lost in ((last + 1,), (-1,), [last], (last, last), (last, 0), (True,), None, last, "0", ((0,),)):
            self.refuses(BadLost, lost, falls, ASKED, 0, lost)
        self.refuses(BadLost, (0,), falls, YES, 0, (0,))


class FlushAndForce(Checks):
    def test_flush(self):
        store = flush(WROTE, 0, 1)
        self.same(store[1][0][1], ((0, ()), (3, (("b", -7),))))
        self.same([unsafe(store, 0), store[1][1:], store[2:]], [(), WROTE[1][1:], WROTE[2:]])
        self.same(flush(k=0, house=0, store=WROTE)[1][0][1], ((0, ()), (0, ())))

    def test_force(self):
        store = force(WROTE, 3)
        self.same([unsafe(store, 3), store[1][3][1:], store[1][:3], store[2:]], [(), WROTE[1][3][1:], WROTE[1][:3], WROTE[2:]])
        self.same(force(house=3, store=store), store)
        self.same(force(NEW, 1), NEW)

    def test_errors(self):
        for house in NO_HOUSES:
            self.refuses(BadPlace, house, flush, WROTE, house, None)
            self.refuses(BadPlace, house, force, WROTE, house)
        down = falls(WROTE, 0, ())
        self.assertEqual(vars(self.refused(Down, flush, down, 0, None)), {})
        self.assertEqual(vars(self.refused(Down, force, down, 0)), {})
        for k in (-1, 2, True, False, None, "0"):
            self.refuses(BadNumber, k, flush, WROTE, 0, k)


class Asked(Checks):
    def test_standings(self):
        self.same(standing_of(YES, 0), (
            ((1, (), (), 0, True, 0, True, ()), (2, ((0, "ask"),), ("yes",), 1, True, 0, True, ())), ((0, 1, "ask"), (1, 0, "yes")),
        ))
        self.same(standing_of(deal=1, store=YES), (((0, (), (), 0, True, -1, True, ()),) * 3, ()))

    def test_what_is_safe_of_a_mark(self):
        # The row of the mark "go" has one sector, behind two of "begin"; what is safe of it counts in whole.
        went = fired(opened(new_store(LOOSE, 2, 1), (0, 1)), 0, 0, 0)
        (sectors, _), pages, run = went[1][0]
        for safe in range(len(sectors) + 1):
            store = (went[0], (((sectors, safe), pages, run), went[1][1])) + went[2:]
            self.same(standing_of(store, 0)[0][0][2:4], (("go",), 1 if safe == len(sectors) else 0))

    def test_worths_of_a_house_that_is_down(self):
        self.same([worths_at(falls(WROTE, house, ()), house) for house in (0, 2, 3)], [(), (), ()])
        self.same([worths_at(falls(DONE, house, ()), house) for house in (0, 2)], [(("b", -7),), (("a", 5),)])
        self.same(worths_at(house=0, store=falls(YES, 0, ())), (("b", -7),))
        self.same(worths_at(falls(YES, 0, ()), 0), worths_at(comes_up(falls(YES, 0, ()), 0), 0))

    def test_errors(self):
        for deal in NO_DEALS:
            self.refuses(BadDeal, deal, standing_of, WROTE, deal)
            self.refuses(BadDeal, deal, ends_of, WROTE, deal)
        self.refuses(BadDeal, 0, standing_of, NEW, 0)
        for house in NO_HOUSES:
            self.refuses(BadPlace, house, worths_at, WROTE, house)


class NoStore(Checks):
    def test_comes_before_all_else(self):
        calls = [(opened, 1), (read, 3), (write, 4), (fired, 3), (can_fire, 2), (hears, 4), (falls, 2), (amid, 3), (comes_up, 1), (flush, 2), (force, 1),
                 (standing_of, 1), (ends_of, 1), (worths_at, 1)]
        for thing in (*values_of_any_kind(), YES[:4], list(YES), YES + ((),), (YES[0], list(YES[1])) + YES[2:], (ONE,) + YES[1:]):
            self.assertIs(is_store(thing), False)
            self.assertIs(is_store(thing=thing), False)
            for call, many in calls:
                self.refuses(BadStore, thing, call, thing, *[None] * many)


class Amid(Checks):
    def test_a_rule_that_causes_no_ending(self):
        for lost in all_lost(fired(WROTE, 0, 2, 0), 2):
            self.same(amid(WROTE, ("fire", 0, 2, 0), 0, lost), falls(ASKED, 2, lost))
        for k in (1, -1, True, False, None, "0"):
            self.refuses(BadNumber, k, amid, WROTE, ("fire", 0, 2, 0), k, None)

    def test_a_rule_that_causes_one(self):
        wrote = write(WROTE, 0, 0, "d", 3)[0]
        rows = (("undo", 0, "d", None), ("undo", 0, "b", None), ("end", 0, "dropped"))
        start = log(wrote, 0) + (("mark", 0, "dropped"),)
        done = fired(wrote, 0, 0, 1)
        self.same(log(done, 0), start + rows)
        for k in range(4):
            store = amid(lost=(), k=k, thing=("fire", 0, 0, 1), store=wrote)
            self.same([log(store, 0), told(store), is_store(store)], [start + rows[:k], ((0, 0, "dropped"),), True])
            self.same(store[2][0][1][1], (-1, (), False, -1, False, ("dropped",)))
            # The mark was forced, the rows of the ending were not.
            size = len(store[1][0][0][0])
            safe = size - many_sectors(rows[:k])
            for lost in [lost for many in range(3) for lost in combinations(range(safe, size), many)]:
                cut = amid(wrote, ("fire", 0, 0, 1), k, lost)
                self.same(log(cut, 0), start + rows_left(rows[:k], safe, lost))
                up = comes_up(cut, 0)
                self.same([worths_at(up, 0), log(up, 0)], [(), start + rows + (("end", 1, "dropped"),)])
            for lost in ((safe - 1,), (size,), [safe], None, (True,)):
                self.refuses(BadLost, lost, amid, wrote, ("fire", 0, 0, 1), k, lost)
        for k in (4, -1, True, None):
            self.refuses(BadNumber, k, amid, wrote, ("fire", 0, 0, 1), k, None)

    def test_letters_are_sent_all_the_same(self):
        store = amid(WROTE, ("fire", 0, 0, 1), 0, ())
        self.same(store[3], ((0, 1, 0, "no"),))

    def test_a_coming_up_that_causes_none(self):
        down = falls(KEPT, 0, ())
        one = falls(opened(new_store(LOOSE, 2, 1), (0, 1)), 0, ())
        self.same(amid(one, ("up", 0), 0, ()), falls(comes_up(one, 0), 0, ()))
        empty = falls(NEW, 1, ())
        self.same(amid(empty, ("up", 1), 0, ()), empty)
        for k in (1, -1, True, None):
            self.refuses(BadNumber, k, amid, one, ("up", 0), k, None)
        self.refuses(BadLost, (0,), amid, one, ("up", 0), 0, (0,))
        self.assertEqual(down[2][0][1][1][0], -1)

    def several(self):
        """Four deals at the house 0, the second of which waits for its end; the others are dropped at its coming up."""
        store = new_store(TWO, 3, 1)
        for places in ((1, 0), (2, 0), (0, 2), (0, 1)):
            store = opened(store, places)
        for deal, key in ((0, "a"), (0, "b"), (1, "c"), (2, "d")):
            store = write(store, deal, 0, key, 4)[0]
        store = fired(fired(hears(fired(store, 1, 2, 0), 1, 0, 2, "ask"), 1, 0, 0), 1, 0, 0)
        return falls(store, 0, ())

    def test_a_coming_up_that_causes_several(self):
        down = self.several()
        done = comes_up(down, 0)
        rows = (
            ("undo", 0, "b", None), ("undo", 0, "a", None), ("end", 0, "dropped"), ("undo", 2, "d", None), ("end", 2, "dropped"), ("end", 3, "dropped"),
        )
        start = log(down, 0)
        self.same(log(done, 0), start + rows)
        # How many deals have come up, and how many of the rows are forced, after each number of rows.
        reach = {0: (1, 0), 1: (1, 0), 2: (1, 0), 3: (1, 0), 4: (3, 3), 5: (3, 3), 6: (4, 5)}
        for k, (deals, forced) in reach.items():
            store = amid(down, ("up", 0), k, ())
            self.same([log(store, 0), is_store(store)], [start + rows[:k], True])
            self.same(told(store), tuple((deal, 0, "dropped") for deal in (0, 2, 3) if deal < deals))
            for deal, (places, seats) in enumerate(store[2]):
                seat = seats[places.index(0)]
                self.same(seat[:3], (-1, (), False))
                self.same(seat[5], ("dropped",) if deal < deals and deal != 1 else ())
                self.same(seat[3:5], (0, True) if deal == 1 else (-1, False))
            size = len(store[1][0][0][0])
            safe = size - many_sectors(rows[forced:k])
            for lost in [lost for many in range(3) for lost in combinations(range(safe, size), many)]:
                cut = amid(down, ("up", 0), k, lost)
                self.same(log(cut, 0), start + rows[:forced] + rows_left(rows[forced:k], safe, lost))
                self.same(log(comes_up(cut, 0), 0), log(done, 0))
            for lost in ((safe - 1,), (size,)):
                self.refuses(BadLost, lost, amid, down, ("up", 0), k, lost)
        for k in (7, -1, True, None, "0"):
            self.refuses(BadNumber, k, amid, down, ("up", 0), k, None)

    def test_cut_again_and_again(self):
        store = self.several()
        wanted = comes_up(store, 0)
        for k in (1, 1, 1, 2, 0, 1):
            store = amid(store, ("up", 0), k, ())
        up = comes_up(store, 0)
        self.same([log(up, 0), worths_at(up, 0), up[1][0][2]], [log(wanted, 0), worths_at(wanted, 0), wanted[1][0][2]])
        self.same(sorted(told(up)), sorted(told(wanted)))

    def test_it_falls_in_all_deals(self):
        store = amid(KEPT, ("fire", 1, 0, 1), 1, ())
        self.same([store[2][0][1][1], store[2][1][1][0]], [(-1, (), False, 0, True, ()), (-1, (), False, -1, False, ("dropped",))])
        self.same(store[1][1:], KEPT[1][1:])

    def test_things_that_are_none(self):
        down = falls(YES, 0, ())
        for thing in (
            ("fire", 0, 2, 0, 0), ("fire", 0, 2), ["fire", 0, 2, 0], ("fire", 0, 2, 5), ("fire", 0, 1, 0), ("fire", 2, 0, 0), ("fire", 0, 0, 1), ("fire", 0, 0, True),
            ("fire", False, 2, 2), ("up", 2), ("up", 4), ("up", True), ("up",), ("up", 0, 0), ["up", 0], ("fall", 2, ()), ("force", 2), ("hear", 0, 2, 0, "yes"),
            ("amid", ("up", 0), 0, ()), ("open", (0, 1)), ("UP", 0),
            *[thing for thing in values_of_any_kind() if thing != ("up", 0)],
        ):
            self.refuses(BadEvent, thing, amid, down, thing, None, None)
        self.same(is_store(amid(down, ("up", 0), 0, ())), True)


if __name__ == "__main__":
    unittest.main()
