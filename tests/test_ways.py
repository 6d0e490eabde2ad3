"""Part 11: things, runs, and the way of one deal."""

import random
import time
import unittest

from allshelves.errors import BadDeal, BadEvent, BadNumber, BadProtocol, BadStore
from allshelves.protocols import known
from allshelves.standings import is_row, standing_behind
from allshelves.stores import amid, comes_up, falls, fired, hears, new_store, opened, read, standing_of, write
from allshelves.ways import behind_run, happened, is_run, way_of, what_can
from draws import SLOW, Drawn, after, drawn_runs
from helpers import Checks, spoiled, values_of_any_kind

TWO = known("tworounds")
NEW = new_store(TWO, 3, 2)
RUN = (
    ("open", (2, 0)), ("open", (0, 1, 2)), ("write", 0, 2, "a", 5), ("read", 1, 1, "c"), ("fire", 0, 2, 0), ("hear", 0, 0, 2, "ask"), ("fire", 0, 0, 0),
    ("flush", 0, 1), ("force", 1), ("fall", 1, ()), ("up", 1), ("amid", ("fire", 0, 0, 1), 0, ()), ("amid", ("up", 0), 1, (6,)), ("up", 0),
)
STORES = [behind_run(NEW, RUN[:k]) for k in range(len(RUN) + 1)]


class Things(Checks):
    def test_what_the_functions_of_stores_do(self):
        for thing, before, store in zip(RUN, STORES, STORES[1:]):
            self.same(happened(before, thing), store)
            self.same(after(before, thing)[0], store)
        self.same(happened(thing=RUN[0], store=NEW), STORES[1])
        for drawn in drawn_runs()[:10]:
            for thing, before, store in zip(drawn.run, drawn.stores, drawn.stores[1:]):
                self.same(happened(before, thing), store)

    def test_each_kind(self):
        store = STORES[3]
        self.same(happened(store, ("read", 0, 2, "a")), read(store, 0, 2, "a")[0])
        self.same(happened(store, ("write", 1, 2, "a", 1)), write(store, 1, 2, "a", 1)[0])
        self.same(write(store, 1, 2, "a", 1)[1][0], "waits")
        self.same(happened(store, ("fall", 0, (0, 2))), falls(store, 0, (0, 2)))
        self.same(happened(STORES[5], ("hear", 0, 0, 2, "ask")), hears(STORES[5], 0, 0, 2, "ask"))
        self.same(happened(store, ("fire", 1, 0, 1)), fired(store, 1, 0, 1))
        self.same(happened(store, ("open", (0, 1))), opened(store, (0, 1)))
        down = falls(store, 0, ())
        self.same(happened(down, ("up", 0)), comes_up(down, 0))
        self.same(happened(down, ("amid", ("up", 0), 1, ())), amid(down, ("up", 0), 1, ()))

    def cannot(self, store, thing):
        self.refuses(BadEvent, thing, happened, store, thing)
        run = (("force", 2), thing, ("force", 2))
        self.refuses(BadEvent, thing, behind_run, store, run)
        self.assertIs(is_run(store, run), False)

    def test_things_that_cannot_happen(self):
        for thing in (
            (), ("open",), ("open", (0,)), ("open", (0, 3)), ("open", (0, 0)), ("open", [0, 1]), ("open", (0, 1), 1), ("open", 0, 1), ("open", (True, 0)),
            ("read", 0, 0, "a", 1), ("read", 2, 0, "a"), ("read", 0, 1, "a"), ("read", 0, 0, ""), ("read", 0, 0), ("read", False, 0, "a"),
            ("write", 0, 0, "a"), ("write", 0, 0, "a", True), ("write", 0, 0, "a", "1"), ("write", 0, 0, "A", 1), ("write", 0, True, "a", 1),
            ("fire", 0, 0, 0), ("fire", 0, 0, 1, 1), ("fire", 0, 0), ("fire", 0, 0, True), ("fire", 0, 2, 2), ("fire", 0, 1, 0), ("fire", 2, 0, 0),
            ("hear", 0, 0, 2, "ask"), ("hear", 0, 0, 2), ("hear", 0, 0, 0, "ask"), ("fall", 0), ("fall", 3, ()), ("fall", 0, (99,)), ("fall", 0, [0]), ("fall", 0, (0, 0)),
            ("fall", True, ()), ("amid", ("fire", 0, 0, 1), 0), ("amid", ("fire", 0, 0, 1), 2, ()), ("amid", ("fire", 0, 0, 0), 0, ()), ("amid", ("up", 0), 0, ()),
            ("amid", ["fire", 0, 0, 1], 0, ()), ("amid", ("fire", 0, 0, 1), False, ()), ("amid", ("fire", 0, 0, 1), 1, (0,)), ("amid", ("force", 0), 0, ()),
            ("amid", ("amid", ("fire", 0, 0, 1), 0, ()), 0, ()), ("up", 0), ("up", 3), ("up",), ("up", 0, 0), ("flush", 0, 2), ("flush", 3, 0), ("flush", 0), ("flush", 0, True),
            ("force", 3), ("force",), ("force", 0, 0), ("force", True), ("told", 0, 0, "kept"), ("Open", (0, 1)), (["open"], (0, 1)), (None, 0), ("rule", 0, 0), ("", 0),
        ):
            self.cannot(STORES[3], thing)
        down = falls(STORES[3], 0, ())
        for thing in (("open", (0, 1)), ("read", 0, 0, "a"), ("fire", 0, 0, 1), ("fall", 0, ()), ("flush", 0, 0), ("force", 0), ("amid", ("fire", 0, 0, 1), 0, ())):
            self.cannot(down, thing)

    def test_something_otherwise_at_any_depth(self):
        for before, thing in zip(STORES, RUN):
            for other in spoiled(thing):
                try:
                    store = happened(before, other)
                except BadEvent as error:
                    self.assertIs(error.thing, other)
                    self.assertIs(is_run(before, (other,)), False)
                    continue
                # What can happen all the same has the form of such a thing, with integers and no bools.
                self.assertIn(other[0], ("open", "read", "write", "fire", "hear", "fall", "amid", "up", "flush", "force"))
                self.assertNotIn("True", repr(other))
                self.assertNotIn("False", repr(other))
                self.assertNotIn("[", repr(other))
                self.same(store, after(before, other)[0])

    def test_values_of_any_kind(self):
        for thing in values_of_any_kind():
            if thing != ("up", 0):
                self.cannot(STORES[3], thing)
        self.cannot(STORES[3], ("up", 0))


class Runs(Checks):
    def test_behind_run(self):
        self.same([behind_run(NEW, ()), behind_run(run=RUN[:1], store=NEW)], [NEW, STORES[1]])
        self.same(behind_run(STORES[4], RUN[4:]), STORES[-1])
        self.assertIs(is_run(NEW, RUN), True)
        self.assertIs(is_run(thing=(), store=NEW), True)
        self.assertIs(is_run(NEW, RUN[1:]), False)

    def test_no_tuple(self):
        for run in (list(RUN), None, 0, "", {}, True, [RUN[0]]):
            self.refuses(BadEvent, run, behind_run, NEW, run)
            self.refuses(BadEvent, run, way_of, TWO, 3, 2, run, None)
            self.assertIs(is_run(NEW, run), False)
        for run in values_of_any_kind():
            self.assertIs(is_run(NEW, run), run == () and isinstance(run, tuple), run)

    def test_the_first_thing_that_cannot_happen(self):
        first, second = ("up", 9), ("down", 9)
        for run in ((first,), (first,) + RUN, RUN[:5] + (first,) + RUN[5:], RUN + (first,), (first, second), RUN[:3] + (first, second), (first, None)):
            self.refuses(BadEvent, first, behind_run, NEW, run)
            self.assertIs(is_run(NEW, run), False)
            self.refuses(BadEvent, first, way_of, TWO, 3, 2, run, None)
        self.refuses(BadEvent, RUN, behind_run, NEW, (RUN, first))
        # What can happen first, and cannot a second time.
        again = RUN[:6] + (RUN[5],)
        raised = self.refused(BadEvent, behind_run, NEW, again)
        self.same(raised.thing, RUN[5])

    def test_no_store_comes_first(self):
        for thing in (*values_of_any_kind(), NEW[:4], list(NEW)):
            self.refuses(BadStore, thing, happened, thing, None)
            self.refuses(BadStore, thing, is_run, thing, ())
            self.refuses(BadStore, thing, behind_run, thing, None)
            self.refuses(BadStore, thing, what_can, thing)


class WhatCan(Checks):
    def test_a_new_store(self):
        self.same(what_can(NEW), (
            ("fall", 0, ()), ("fall", 1, ()), ("fall", 2, ()), ("flush", 0, 0), ("flush", 0, 1), ("flush", 1, 0), ("flush", 1, 1), ("flush", 2, 0), ("flush", 2, 1),
            ("force", 0), ("force", 1), ("force", 2),
        ))

    def test_houses_that_are_down(self):
        store = falls(falls(new_store(TWO, 2, 1), 0, ()), 1, ())
        self.same(what_can(store), (("up", 0), ("up", 1)))
        self.same(what_can(store=falls(opened(new_store(TWO, 2, 1), (1, 0)), 0, ())), (
            ("fall", 1, (0, 1)), ("fire", 0, 1, 0), ("fire", 0, 1, 1), ("flush", 1, 0), ("force", 1), ("up", 0),
        ))

    def test_deals_that_wait(self):
        store = write(write(opened(opened(new_store(TWO, 2, 1), (0, 1)), (1, 0)), 0, 1, "a", 1)[0], 1, 1, "a", 1)
        self.same(store[1], ("waits", (0,)))
        self.same([thing for thing in what_can(store[0]) if thing[0] == "fire"], [("fire", 0, 0, 0), ("fire", 0, 0, 1), ("fire", 0, 1, 1), ("fire", 1, 0, 1), ("fire", 1, 1, 1)])

    def test_letters(self):
        self.same([thing for thing in what_can(STORES[5]) if thing[0] == "hear"], [("hear", 0, 0, 2, "ask")])
        self.same([thing for thing in what_can(STORES[6]) if thing[0] == "hear"], [])

    def test_all_and_no_others(self):
        for drawn in drawn_runs()[:12]:
            for store in drawn.stores[::8]:
                self.same(what_can(store), self.plain(store))

    def plain(self, store):
        """All things with the words and numbers that there are, tried one by one."""
        n, found = len(store[1]), []
        tried = [("up", h) for h in range(n)] + [("force", h) for h in range(n)] + [("flush", h, k) for h in range(n) for k in range(len(store[1][h][1]))]
        for h, ((sectors, safe), _, _) in enumerate(store[1]):
            tried.append(("fall", h, tuple(range(safe, len(sectors)))))
        kinds = sorted({letter[3] for letter in store[3]})
        for deal, (places, _) in enumerate(store[2]):
            tried += [("fire", deal, h, r) for h in places for r in range(6)]
            tried += [("hear", deal, h, g, kind) for h in places for g in places for kind in kinds]
        for thing in tried:
            try:
                after(store, thing)
            except Exception:
                continue
            found.append(thing)
        return tuple(sorted(found))


class Ways(Checks):
    def way(self, *run, deal=0, protocol=TWO, n=2, many=1):
        return way_of(protocol, n, many, run, deal)

    def test_rules_and_letters(self):
        run = (("open", (1, 0)), ("write", 0, 0, "a", 1), ("fire", 0, 1, 0), ("hear", 0, 0, 1, "ask"), ("fire", 0, 0, 0), ("fire", 0, 0, 0), ("hear", 0, 1, 0, "yes"))
        self.same(self.way(*run), (("rule", 0, 0), ("hear", 1, 0, "ask"), ("rule", 1, 0), ("rule", 1, 0), ("hear", 0, 1, "yes")))
        self.same(way_of(deal=0, run=run[:2], many=1, n=2, protocol=TWO), ())

    def test_falls_and_comings_up(self):
        run = (("open", (1, 0)), ("fall", 0, ()), ("up", 0), ("fall", 1, (0,)), ("up", 1))
        self.same(self.way(*run), (("fall", 1, 0), ("up", 1), ("fall", 0, 0), ("up", 0)))

    def test_forces(self):
        run = (("open", (1, 0)), ("fire", 0, 1, 0), ("fire", 0, 0, 0), ("fire", 0, 0, 0))
        self.same(self.way(*run, protocol=SLOW), (("rule", 0, 0), ("rule", 1, 0), ("rule", 1, 0)))
        # Whatever forces a disk is a step "force" for each mark that was not forced yet.
        self.same(self.way(*run, ("force", 0), ("force", 0), ("flush", 1, 0), protocol=SLOW)[3:], (("force", 1), ("force", 0)))
        self.same(self.way(*run, ("fire", 0, 1, 1), protocol=SLOW)[3:], (("rule", 0, 1), ("force", 0)))
        self.same(self.way(("open", (1, 0)), ("force", 0), ("flush", 1, 0), protocol=SLOW), ())

    def test_another_deal_forces(self):
        run = (("open", (1, 0)), ("open", (0, 1)), ("fire", 0, 0, 0), ("fire", 1, 0, 0), ("fire", 1, 0, 1))
        self.same(self.way(*run, protocol=SLOW), (("rule", 1, 0), ("force", 1)))
        self.same(self.way(*run, protocol=SLOW, deal=1), (("rule", 0, 0), ("rule", 0, 1), ("force", 0)))
        # In order: the positions in the deal.
        run = (("open", (1, 0)), ("fire", 0, 0, 0), ("fire", 0, 1, 0), ("open", (0, 1)), ("fall", 0, ()), ("up", 0))
        self.same(self.way(*run, protocol=SLOW), (("rule", 1, 0), ("rule", 0, 0), ("fall", 1, 1), ("up", 1)))

    def test_falls_with_marks(self):
        run = (("open", (0, 1)), ("fire", 0, 0, 0), ("force", 0), ("fire", 0, 1, 0))
        self.same(self.way(*run, ("fall", 1, (2,)), protocol=SLOW), (("rule", 0, 0), ("force", 0), ("rule", 1, 0), ("fall", 1, 0)))
        self.same(self.way(*run, ("fall", 1, ()), ("fall", 0, ()), protocol=SLOW)[3:], (("fall", 1, 1), ("fall", 0, 1)))

    def test_amid_a_rule(self):
        run = (("open", (1, 0)), ("open", (0, 1)), ("fire", 1, 0, 0))
        self.same(self.way(*run, ("amid", ("fire", 0, 0, 1), 1, ()), protocol=SLOW), (("rule", 1, 1), ("fall", 1, 1)))
        self.same(self.way(*run, ("amid", ("fire", 0, 0, 1), 0, (4, 5)), protocol=SLOW), (("rule", 1, 1), ("fall", 1, 0)))
        # In another deal it is a fall, if the house is one of that deal.
        self.same(self.way(*run, ("amid", ("fire", 0, 0, 1), 1, ()), protocol=SLOW, deal=1), (("rule", 0, 0), ("fall", 0, 1)))
        run = (("open", (1, 0)), ("open", (1, 2)), ("fire", 1, 2, 0), ("amid", ("fire", 0, 0, 1), 1, ()))
        self.same(self.way(*run, protocol=SLOW, deal=1, n=3), (("rule", 1, 0),))

    def test_amid_a_coming_up(self):
        run = (("open", (1, 0)), ("open", (0, 1)), ("open", (0, 2)), ("fall", 0, ()))
        ways = {
            0: (("fall", 1, 0), ("up", 1), ("fall", 1, 0)), 1: (("fall", 0, 0),), 2: (("fall", 0, 0),),
        }
        for deal, way in ways.items():
            self.same(self.way(*run, ("amid", ("up", 0), 1, ()), n=3, deal=deal), way)
        twice = {0: ways[0], 1: (("fall", 0, 0), ("up", 0), ("fall", 0, 0)), 2: ways[2]}
        for deal, way in twice.items():
            self.same(self.way(*run, ("amid", ("up", 0), 2, ()), n=3, deal=deal), way)
        # No ending: it comes up in all its deals, and falls in all.
        run = (("open", (1, 0)), ("open", (0, 1)), ("fall", 0, ()), ("amid", ("up", 0), 0, ()))
        for deal, at in ((0, 1), (1, 0)):
            self.same(self.way(*run, protocol=SLOW, deal=deal), (("fall", at, 0), ("up", at), ("fall", at, 0)))
        self.same(self.way(*run, ("open", (1, 2)), protocol=SLOW, deal=2, n=3), ())

    def test_errors(self):
        for thing in (None, (), TWO[:1], 0):
            self.refuses(BadProtocol, thing, way_of, thing, None, None, None, None)
        for n in (1, 5, True, None):
            self.refuses(BadNumber, n, way_of, TWO, n, None, None, None)
        for many in (0, 9, True, None):
            self.refuses(BadNumber, many, way_of, TWO, 2, many, None, None)
        for deal in (-1, 2, True, None, "0", (0,), [], {}):
            self.refuses(BadDeal, deal, way_of, TWO, 3, 2, RUN, deal)
        self.refuses(BadDeal, 0, way_of, TWO, 3, 2, (), 0)
        self.refuses(BadEvent, ("up", 0), way_of, TWO, 2, 1, (("up", 0),), 0)

    def test_for_every_run(self):
        many = 0
        for drawn in drawn_runs():
            for length in (len(drawn.run), len(drawn.run) // 2):
                store = drawn.stores[length]
                for deal, (places, _) in enumerate(store[2]):
                    way = way_of(drawn.protocol, drawn.n, drawn.many, drawn.run[:length], deal)
                    self.assertIs(is_row(drawn.protocol, len(places), way), True)
                    self.same(standing_behind(drawn.protocol, len(places), way), standing_of(store, deal))
                    many += sum(step[0] == "force" for step in way)
        self.assertGreater(many, 20)

    def test_with_slow_marks(self):
        source = random.Random(12)
        forces = 0
        for k in range(12):
            drawn = Drawn(source, "slow", 2 + k % 3, 2, 40, 4, 1)
            for deal, (places, _) in enumerate(drawn.stores[-1][2]):
                way = way_of(SLOW, drawn.n, 2, drawn.run, deal)
                self.same(standing_behind(SLOW, len(places), way), standing_of(drawn.stores[-1], deal))
                forces += sum(step[0] == "force" for step in way)
        self.assertGreater(forces, 20)


class Time(Checks):
    def test_long_runs(self):
        drawn = Drawn(random.Random(14), "tworounds", 4, 8, 60, 6, 0.1)
        self.assertEqual(len(drawn.stores[-1][2]), 6)
        for call in (
            lambda: behind_run(drawn.stores[0], drawn.run), lambda: is_run(drawn.stores[0], drawn.run), lambda: what_can(drawn.stores[-1]),
            lambda: [way_of(drawn.protocol, 4, 8, drawn.run, deal) for deal in range(6)],
        ):
            start = time.perf_counter()
            call()
            self.assertLess(time.perf_counter() - start, 1)


if __name__ == "__main__":
    unittest.main()
