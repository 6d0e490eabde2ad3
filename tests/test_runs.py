"""[0.3], [9.5], [10.3], [10.4]: what holds along drawn runs of stores; and how long a call takes."""

import random
import time
import unittest

from allshelves import stores
from allshelves.disks import log_of
from allshelves.errors import BadNumber
from allshelves.houses import come_up, ended, fallen
from allshelves.judge import is_taken
from allshelves.standings import behind, first_standing, is_standing, steps_from
from allshelves.stores import amid, can_fire, comes_up, ends_of, is_store, new_store, standing_of, worths_at
from allshelves.tables import worths_by, worths_on
from draws import PROTOCOLS, Drawn, after, drawn_runs
from helpers import Checks
from oracle import standing, store_valid
from plain import PlainStore


def is_told_both(store, deal):
    ends = [end for told in ends_of(store, deal) for end in told]
    return "kept" in ends and "dropped" in ends


def ends_in_logs(store):
    """The triples (deal, house, end) of all "end" rows."""
    return [(row[1], h, row[2]) for h, house in enumerate(store[1]) for row in log_of(house[0]) if row[0] == "end"]


class DrawnRuns(Checks):
    def test_all_kinds_of_things_are_drawn(self):
        words = [thing[0] for drawn in drawn_runs() for thing in drawn.run]
        for word in ("open", "read", "write", "fire", "hear", "fall", "amid", "up", "flush", "force"):
            self.assertGreater(words.count(word), 30, word)
        answers = [answer[0] for drawn in drawn_runs() for answer in drawn.answers if answer is not None]
        self.assertGreater(answers.count("waits"), 10)
        self.assertTrue(any(thing[0] == "amid" and thing[1][0] == "up" and thing[2] > 1 for drawn in drawn_runs() for thing in drawn.run))

    def test_the_store_is_as_a_plain_one(self):
        for drawn in drawn_runs():
            plain = PlainStore(drawn.protocol, drawn.n, drawn.many)
            self.same(drawn.stores[0], plain.store())
            for thing, store, answer in zip(drawn.run, drawn.stores[1:], drawn.answers):
                self.same(plain.do(thing), answer)
                self.same(store, plain.store())

    def test_they_are_stores(self):
        for drawn in drawn_runs():
            for store in drawn.stores[::5]:
                self.assertIs(is_store(store), True)
                self.assertTrue(store_valid(store))

    def test_tables_open_deals_and_locks(self):
        for drawn in drawn_runs():
            for store in drawn.stores:
                for h, (device, _, run) in enumerate(store[1]):
                    if run is None:
                        continue
                    rows = log_of(device)
                    self.same([worths_on(run[0]), worths_at(store, h)], [worths_by(rows)] * 2)
                    ended_deals = [row[1] for row in rows if row[0] == "end"]
                    begun_deals = [row[1] for row in rows if row[0] == "begin"]
                    self.same([deal for deal, _ in run[2]], sorted(set(begun_deals) - set(ended_deals)))
                    held = {hold[:2] for hold in run[1][0]}
                    for row in rows:
                        if row[0] in ("read", "write") and row[1] not in ended_deals:
                            self.assertIn((row[2], row[1]), held)

    def test_what_was_told_is_never_taken_back(self):
        for drawn in drawn_runs():
            for before, store in zip(drawn.stores, drawn.stores[1:]):
                self.same(store[4][:len(before[4])], before[4])
                told = [event for event in store[4] if event[0] == "told"]
                self.assertEqual(len(told), len(set(told)))

    def test_what_a_house_has_forced_stays(self):
        for drawn in drawn_runs():
            for before, store in zip(drawn.stores, drawn.stores[1:]):
                for (old, _, _), (new, _, _) in zip(before[1], store[1]):
                    self.same(new[0][:old[1]], old[0][:old[1]])

    def test_coming_up_again(self):
        for drawn in drawn_runs():
            for house in drawn.stores[-1][1]:
                up = come_up(house) if house[2] is None else come_up(fallen(house, ()))
                self.same(come_up(fallen(up, ())), up)


def standings_reached(protocol, n):
    found = [first_standing(protocol, n)]
    met = set(found)
    for one in found:
        for step in steps_from(protocol, n, one):
            other = behind(protocol, n, one, step)
            if other not in met:
                met.add(other)
                found.append(other)
    return met


class OneDeal(Checks):
    def test_standings(self):
        for drawn in drawn_runs():
            for store in drawn.stores[::4]:
                for deal, (places, _) in enumerate(store[2]):
                    self.same(standing_of(store, deal), standing(store, deal))
                    self.assertIs(is_standing(drawn.protocol, len(places), standing_of(store, deal)), True)

    def test_they_are_reached(self):
        reached = {name: standings_reached(PROTOCOLS[name], 2) for name in ("tworounds", "oneround", "hasty")}
        self.assertEqual([len(reached["tworounds"]), len(reached["oneround"])], [670, 96])
        seen = {name: set() for name in reached}
        for drawn in drawn_runs():
            for store in drawn.stores:
                for deal, (places, _) in enumerate(store[2]):
                    if drawn.name in reached and len(places) == 2:
                        self.assertIn(standing_of(store, deal), reached[drawn.name])
                        seen[drawn.name].add(standing_of(store, deal))
        self.assertTrue(all(len(some) > 20 for name, some in seen.items()), {name: len(some) for name, some in seen.items()})


class Guarantee(Checks):
    def test_taken_protocols(self):
        self.assertEqual([is_taken(PROTOCOLS[name], 2) for name in ("tworounds", "oneround", "lazy", "loose")], [True, False, False, False])
        source = random.Random(8)
        runs = [drawn for drawn in drawn_runs() if drawn.name == "tworounds"]
        runs += [Drawn(source, "tworounds", 2, 1, 50, 2, wildness) for wildness in (0.02, 0.02, 0.05, 0.05, 0.1, 0.1, 0.3, 1)]
        kept = 0
        for drawn in runs:
            for store in drawn.stores:
                logged = ends_in_logs(store)
                for deal in range(len(store[2])):
                    self.assertFalse(is_told_both(store, deal))
                    self.assertLessEqual(len({end for one, _, end in logged if one == deal}), 1)
                for deal, h, end in logged:
                    places = store[2][deal][0]
                    self.assertIn(end, ends_of(store, deal)[places.index(h)])
            kept += any(event[0] == "told" and event[3] == "kept" for event in drawn.stores[-1][4])
        self.assertGreater(kept, 3)

    def test_other_protocols_part_deals(self):
        # The draws are wild enough to find what the judge finds.
        for name in ("oneround", "loose"):
            self.assertTrue(any(
                is_told_both(drawn.stores[-1], deal) for drawn in drawn_runs() if drawn.name == name for deal in range(len(drawn.stores[-1][2]))
            ), name)


class CutAndDoneAgain(Checks):
    def test_comings_up(self):
        many = 0
        for drawn in drawn_runs():
            for store in drawn.stores[::6]:
                for house in range(drawn.n):
                    if store[1][house][2] is None:
                        wanted = comes_up(store, house)
                        for again in self.done_again(store, ("up", house), house):
                            self.same([log_of(again[1][house][0]), again[1][house][2]], [log_of(wanted[1][house][0]), wanted[1][house][2]])
                            self.alike(again, wanted, house)
                            many += 1
        self.assertGreater(many, 50)

    def test_rules(self):
        many = 0
        for drawn in drawn_runs():
            if drawn.name not in ("tworounds", "oneround", "lazy"):
                # A house may forget an end that it came to without a mark.
                continue
            for store in drawn.stores[::6]:
                for deal, (places, _) in enumerate(store[2]):
                    for house in places:
                        for r in can_fire(store, deal, house):
                            thing = ("fire", deal, house, r)
                            wanted = comes_up(stores.falls(after(store, thing)[0], house, ()), house)
                            for again in self.done_again(store, thing, house):
                                # Coming up, the house ends its deals in their order: the rows may be in another one.
                                self.same(sorted(log_of(again[1][house][0]), key=repr), sorted(log_of(wanted[1][house][0]), key=repr))
                                self.alike(again, wanted, house)
                                many += 1
        self.assertGreater(many, 50)

    def done_again(self, store, thing, house):
        """The stores after a thing that was cut after each number of rows, with nothing lost, and done again."""
        found = []
        while True:
            try:
                found.append(comes_up(amid(store, thing, len(found), ()), house))
            except BadNumber:
                return found

    def alike(self, store, wanted, house):
        self.same([seats for _, seats in store[2]], [seats for _, seats in wanted[2]])
        self.same([worths_at(store, house), store[1][house][2][1:]], [worths_at(wanted, house), wanted[1][house][2][1:]])
        self.same(sorted(event for event in store[4] if event[0] == "told"), sorted(event for event in wanted[4] if event[0] == "told"))


class Time(Checks):
    def test_a_store_at_the_limits(self):
        source = random.Random(9)
        drawn = Drawn(source, "tworounds", 4, 8, 60, 6, 0.02)
        full = max(drawn.stores, key=lambda store: sum(len(house[0][0]) * (house[2] is not None) for house in store[1]))
        up = [h for h, house in enumerate(full[1]) if house[2] is not None]
        deal = len(full[2]) - 1
        house = full[2][deal][0][0]
        calls = [
            lambda: is_store(full), lambda: new_store(drawn.protocol, 4, 8), lambda: stores.opened(full, tuple(up[:2])),
            lambda: stores.can_fire(full, deal, house), lambda: standing_of(full, deal), lambda: ends_of(full, deal),
            lambda: [worths_at(full, h) for h in range(4)], lambda: [stores.force(full, h) for h in up],
            lambda: [stores.falls(full, h, ()) for h in up], lambda: [amid(full, ("up", h), 0, ()) for h in range(4) if h not in up],
            lambda: after(drawn.stores[-2], drawn.run[-1]),
        ]
        for call in calls:
            start = time.perf_counter()
            call()
            self.assertLess(time.perf_counter() - start, 0.5)

    def test_an_ending_of_many_rows(self):
        store = stores.opened(new_store(PROTOCOLS["tworounds"], 2, 8), (0, 1))
        for k in range(56):
            store = stores.write(store, 0, 0, "abcdefghijkl"[k % 12], k)[0]
        start = time.perf_counter()
        dropped = stores.fired(store, 0, 0, 1)
        house = ended(store[1][0], 0, "dropped")[0]
        self.assertLess(time.perf_counter() - start, 0.5)
        self.same([worths_at(dropped, 0), worths_on(house[2][0])], [(), ()])
        for k in (0, 1, 30, 56, 57):
            self.same(worths_at(comes_up(amid(store, ("fire", 0, 0, 1), k, ()), 0), 0), ())


if __name__ == "__main__":
    unittest.main()
