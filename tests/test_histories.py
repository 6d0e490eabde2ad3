"""Part 12: histories, the orders in which they are right, and what the kept deals did."""

import random
import time
import unittest
from itertools import permutations

from allshelves.errors import BadHistory, BadPlace, BadStore
from allshelves.histories import history_of, is_history, is_right_in, judge_serial, kept_deals, left_by, serial_holds
from allshelves.judge import is_taken
from allshelves.protocols import known
from allshelves.stores import comes_up, fired, hears, new_store, opened, read, worths_at, write
from draws import Drawn, drawn_runs
from helpers import Checks, spoiled, values_of_any_kind
from oracle import is_int, is_word, is_worth, tuples

TWO = known("tworounds")


def acts(*words):
    """Acts by words such as "r0a5" and "w1b-": read or write, house, key, worth."""
    found = []
    for word in words:
        worth = None if word[3:] == "-" else int(word[3:])
        found.append(({"r": "read", "w": "write"}[word[0]], int(word[1]), word[2], worth))
    return tuple(found)


APART = ((0, acts("r0a-", "w0b1")), (1, acts("r0b-", "w0a2")))
CHAIN = ((4, acts("r1a5")), (2, acts("w1a5")))
# 3 after 1, 1 after 7; 0 anywhere, 5 before 3.
FOUR = ((3, acts("r0a2", "w0a3", "r1a-")), (7, acts("w0a1")), (0, ()), (1, acts("r0a1", "w0a2", "r0a2", "r1b-")), (5, acts("r0a-", "w0a-")))


def history_valid(thing):
    if not tuples(thing, 2):
        return False
    for deal, done in thing:
        if not is_int(deal, 0) or not tuples(done, 4):
            return False
        for word, house, key, worth in done:
            if type(word) is not str or word not in ("read", "write") or not is_int(house, 0, 3) or not is_word(key) or not is_worth(worth):
                return False
    return len({deal for deal, _ in thing}) == len(thing)


def right_in(history, order):
    worths, done = {}, dict(history)
    for deal in order:
        for word, house, key, worth in done[deal]:
            if word == "write":
                worths[house, key] = worth
            elif worths.get((house, key)) != worth:
                return False
    return True


def orders(history):
    return [order for order in permutations([deal for deal, _ in history]) if right_in(history, order)]


class Histories(Checks):
    def yes(self, thing):
        self.assertIs(is_history(thing), True, thing)
        self.assertIs(is_history(thing=thing), True)

    def no(self, thing):
        self.assertIs(is_history(thing), False, thing)
        self.refuses(BadHistory, thing, is_right_in, thing, None)
        self.refuses(BadHistory, thing, left_by, thing)
        self.refuses(BadHistory, thing, judge_serial, thing)
        self.refuses(BadHistory, thing, serial_holds, thing, None)

    def test_valid_ones(self):
        for thing in ((), ((0, ()),), APART, CHAIN, FOUR, ((10 ** 39, acts("r3a-", "w0b-7")),), ((1, ()), (0, ()))):
            self.yes(thing)

    def test_others(self):
        for thing in (
            [(0, ())], ((0, ()), (0, ())), ((0, ()), (1, ()), (0, acts("r0a-"))), ((-1, ()),), ((True, ()),), ((None, ()),), ((0, []),), ((0,),), ((0, (), ()),), ([0, ()],),
            ((0, (("read", 0, "a"),)),), ((0, (("read", 4, "a", 1),)),), ((0, (("read", -1, "a", 1),)),), ((0, (("read", True, "a", 1),)),), ((0, (("read", 0, "A", 1),)),),
            ((0, (("read", 0, "", 1),)),), ((0, (("read", 0, "a", True),)),), ((0, (("read", 0, "a", "1"),)),), ((0, (["read", 0, "a", 1],)),), ((0, (("undo", 0, "a", 1),)),),
            ((0, (("reads", 0, "a", 1),)),), ((0, (("write", 0, "a", 1, 2),)),), (0, ()), ((0, "r"),), ((0, ("read", 0, "a", 1)),), ((0, ((["read"], 0, "a", 1),)),),
        ):
            self.no(thing)
        for thing in values_of_any_kind():
            if thing != ():
                self.no(thing)

    def test_spoiled(self):
        for history in (APART, CHAIN, FOUR):
            for thing in spoiled(history):
                self.assertIs(is_history(thing), history_valid(thing), thing)


class Orders(Checks):
    def test_right_in(self):
        for history in (APART, CHAIN, FOUR, (), ((5, acts("r0a-", "w0a3", "r0a3")),), ((5, acts("r0a3")),)):
            for order in permutations([deal for deal, _ in history]):
                self.assertIs(is_right_in(history, order), right_in(history, order))
        self.assertIs(is_right_in(order=(2, 4), history=CHAIN), True)
        self.assertIs(is_right_in(CHAIN, (4, 2)), False)

    def test_reads_of_none(self):
        self.assertIs(is_right_in(((0, acts("r0a-", "r1a-")),), (0,)), True)
        self.assertIs(is_right_in(((0, acts("w0a1", "w0a-", "r0a-")),), (0,)), True)
        self.assertIs(is_right_in(((0, acts("w0a0", "r0a-")),), (0,)), False)
        self.assertIs(is_right_in(((0, acts("r0a0")),), (0,)), False)
        # Another house's key is another one.
        self.assertIs(is_right_in(((0, acts("w0a1", "r1a-", "r0b-")),), (0,)), True)

    def test_no_orders(self):
        for order in ((2,), (2, 4, 2), (2, 4, 4), (2, 4, 0), (), [2, 4], (2, True), (2, 4.5), (2, None), (2, "4"), None, 0, "", {}, ((2, 4),), (4, 4)):
            self.refuses(BadPlace, order, is_right_in, CHAIN, order)
            self.assertIs(serial_holds(CHAIN, ("serial", order)), False)
        for order in ((True, 0), (1, False), (1, 0, None)):
            self.refuses(BadPlace, order, is_right_in, APART, order)
        for thing in values_of_any_kind():
            self.refuses(BadPlace, thing, is_right_in, CHAIN, thing)

    def test_left_by(self):
        self.same(left_by(APART), ((0, "a", 2), (0, "b", 1)))
        self.same(left_by(history=FOUR), ())
        self.same(left_by(FOUR[:-1]), ((0, "a", 2),))
        self.same(left_by(((0, acts("w3b-7", "w0z0", "w3a1", "w1c-")), (1, acts("r0q5", "w3a2")))), ((0, "z", 0), (3, "a", 2), (3, "b", -7)))
        self.same(left_by(()), ())


class Certificates(Checks):
    def test_of_all_kinds(self):
        for history in (APART, CHAIN, FOUR, (), ((3, acts("r0a1")),), ((3, ()),), FOUR[:4], FOUR[1:]):
            right = [("serial", order) for order in orders(history)] or [("none",)]
            found = judge_serial(history)
            self.assertIn(found, right)
            self.assertIs(serial_holds(history, found), True)
            for certificate in right:
                self.assertIs(serial_holds(thing=certificate, history=history), True)
                for thing in spoiled(certificate):
                    self.assertIs(serial_holds(history, thing), repr(thing) in [repr(other) for other in right], thing)
        self.same(judge_serial(history=CHAIN), ("serial", (2, 4)))

    def test_of_the_other_kind(self):
        self.assertIs(serial_holds(CHAIN, ("none",)), False)
        self.assertIs(serial_holds(APART, ("none",)), True)
        self.assertIs(serial_holds(APART, ("serial", (0, 1))), False)
        for thing in (("none", ()), ("none", None), ["none"], "none", ("None",), (["none"],), ("serial",), ("serial", (2, 4), 0), ["serial", (2, 4)], ("serials", (2, 4))):
            for history in (CHAIN, APART):
                self.assertIs(serial_holds(history, thing), False, thing)

    def test_values_of_any_kind(self):
        for thing in values_of_any_kind():
            for history in (CHAIN, APART, ()):
                self.assertIs(serial_holds(history, thing), False, thing)

    def test_drawn(self):
        source = random.Random(15)
        kinds = []
        for _ in range(150):
            history = tuple(
                (deal, tuple((source.choice(("read", "write", "write")), source.randrange(2), "a", source.choice((None, 1, 2))) for _ in range(source.randrange(3))))
                for deal in source.sample(range(9), source.randint(1, 5))
            )
            found = judge_serial(history)
            kinds.append(found[0])
            wanted = orders(history)
            self.assertEqual(found[0] == "none", wanted == [])
            self.assertTrue(found == ("none",) or found[1] in wanted)
        self.assertGreater(min(kinds.count("none"), kinds.count("serial")), 20)

    def test_six_deals(self):
        # Each reads what the next one wrote: right only backwards. And a ring: right in no order.
        line = tuple((deal, acts(f"w0{'abcdef'[deal]}{deal}") + (acts(f"r0{'abcdef'[deal + 1]}{deal + 1}") if deal < 5 else ())) for deal in range(6))
        ring = line[:5] + ((5, acts("w0f5", "r0a0")),)
        free = tuple((deal, acts(*[f"w{house}{key}{deal}" for house in range(4) for key in "abc"])) for deal in range(6)) + ((6, acts("r0z1")),)
        busy = tuple((deal, acts("r0a-", f"w0b{deal}", "r1b-", "w1c1", "r2c-", "w2d1", "r3d-", "w3a1") * 2) for deal in range(6)) + ((9, acts("r0b9")),)
        for history, wanted in ((line, ("serial", (5, 4, 3, 2, 1, 0))), (ring, ("none",)), (free, ("none",)), (busy, ("none",))):
            start = time.perf_counter()
            self.same(judge_serial(history), wanted)
            self.assertIs(serial_holds(history, wanted), True)
            self.assertLess(time.perf_counter() - start, 1)


def kept_along(store, deal, leader, member):
    """The store after a deal of two houses was kept by tworounds."""
    store = fired(store, deal, leader, 0)
    store = fired(fired(hears(store, deal, member, leader, "ask"), deal, member, 0), deal, member, 0)
    store = fired(hears(store, deal, leader, member, "yes"), deal, leader, 0)
    return fired(hears(store, deal, member, leader, "keep"), deal, member, 0)


class Stores(Checks):
    def test_kept_dropped_and_open_deals(self):
        store = new_store(TWO, 3, 1)
        for places in ((0, 1), (1, 2), (2, 0), (0, 1), (1, 2)):
            store = opened(store, places)
        for deal, house, key, worth in ((0, 0, "a", 1), (1, 2, "b", 2), (0, 1, "c", 3), (2, 2, "d", 4), (3, 1, "e", 5), (4, 1, "f", 6)):
            store = write(store, deal, house, key, worth)[0]
        store = read(read(store, 2, 2, "d")[0], 1, 1, "z")[0]
        self.same([kept_deals(store), history_of(store)], [(), ()])
        store = kept_along(store, 3, 0, 1)
        store = kept_along(store, 1, 1, 2)
        store = fired(store, 2, 2, 1)
        store = fired(store, 0, 0, 0)
        self.same(kept_deals(store=store), (3, 1))
        history = ((3, acts("w1e5")), (1, acts("w2b2", "r1z-")))
        self.same(history_of(store=store), history)
        self.same(left_by(history_of(store)), ((1, "e", 5), (2, "b", 2)))
        # Reads and writes that had to wait are not there; those that followed are.
        store = write(store, 0, 1, "e", 9)[0]
        self.same(history_of(store), history)

    def test_keys_called_as_ends(self):
        store = opened(opened(new_store(TWO, 2, 1), (0, 1)), (0, 1))
        store = read(write(store, 0, 0, "kept", 1)[0], 1, 1, "kept")[0]
        self.same([kept_deals(store), history_of(store)], [(), ()])
        store = kept_along(store, 1, 0, 1)
        self.same([kept_deals(store), history_of(store)], [(1,), ((1, (("read", 1, "kept", None),)),)])

    def test_kept_at_one_house(self):
        one = known("oneround")
        store = opened(opened(new_store(one, 2, 1), (0, 1)), (1, 0))
        store = fired(write(store, 1, 0, "a", 1)[0], 1, 1, 0)
        store = fired(fired(store, 1, 0, 2), 0, 0, 0)
        self.same(kept_deals(store), (1, 0))
        self.same(history_of(store), ((1, acts("w0a1")), (0, ())))

    def test_no_store(self):
        for thing in (*values_of_any_kind(), new_store(TWO, 2, 1)[:4]):
            self.refuses(BadStore, thing, kept_deals, thing)
            self.refuses(BadStore, thing, history_of, thing)

    def test_along_drawn_runs(self):
        for drawn in drawn_runs():
            for store in drawn.stores[::6]:
                told = [event[1] for event in store[4] if event[0] == "told" and event[3] == "kept"]
                self.same(kept_deals(store), tuple(sorted(set(told), key=told.index)))
                self.assertIs(is_history(history_of(store)), True)
                for deal, done in history_of(store):
                    own = [event for event in store[4] if event[0] != "told" and event[1] == deal]
                    self.same([(word, house, key, worth) for word, _, house, key, worth in own], list(done))


class Guarantee(Checks):
    def check(self, store):
        history = history_of(store)
        self.assertIs(is_right_in(history, kept_deals(store)), True)
        for house, (_, _, run) in enumerate(store[1]):
            if run is not None and run[2] == ():
                self.same(worths_at(store, house), tuple((key, worth) for other, key, worth in left_by(history) if other == house))
        return len(history)

    def test_protocols_that_are_taken(self):
        self.assertIs(is_taken(TWO, 2), True)
        source = random.Random(16)
        runs = [drawn for drawn in drawn_runs() if drawn.name == "tworounds"]
        runs += [Drawn(source, "tworounds", 2, 2, 60, most_deals, 0.02) for most_deals in (2, 2, 3, 3, 3, 4, 4, 4)]
        kept = 0
        for drawn in runs:
            for store in drawn.stores[::3]:
                self.check(store)
            store = drawn.stores[-1]
            for house in range(drawn.n):
                store = comes_up(store, house) if store[1][house][2] is None else store
            kept += self.check(store)
        self.assertGreater(kept, 8)


if __name__ == "__main__":
    unittest.main()
