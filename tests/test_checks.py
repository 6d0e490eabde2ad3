"""Part 13: what the disks say, and how deals can be ended."""

import random
import time
import unittest

from allshelves.checks import are_disks, disks_hold, disks_of, finish_holds, judge_disks, judge_finish
from allshelves.disks import log_of
from allshelves.errors import BadDisks, BadProtocol, BadStore
from allshelves.protocols import known, read_protocol
from allshelves.stores import amid, can_fire, comes_up, falls, fired, new_store, opened, write
from allshelves.tables import all_done, empty_pages
from allshelves.ways import behind_run
from draws import LOOSE, Drawn, after, drawn_runs
from helpers import Checks, replaced, spoiled, values_of_any_kind
from logrows import B1, B2, CAN_STAND, CANNOT_STAND, KEPT1, R1A, U1A, W1A, W1B, device_with
from oracle import first_wrong, page_right

TWO, ONE = known("tworounds"), known("oneround")
# Any word of the tests may be a mark of it, for both roles.
MARKS = read_protocol("\n".join(
    part for role in ("leader", "member")
    for part in (role, "state", *[f"on timer write {mark} go 0" for mark in ("kept", "late", "later", "no", "yes")], "up 0",
                 *[f"up {mark} 0" for mark in ("kept", "late", "later", "no", "yes")])
))
EMPTY = (((), 0), ((0, ()),))
# The same deals as those of logrows, as the house 1 has them.
OTHER1, OTHER2 = ("begin", 1, "member", (0, 1)), ("begin", 2, "leader", (1, 0))


def disk(rows, pages=((0, ()),), is_safe=True):
    return (device_with(rows, is_safe), pages)


def plain_certificates(protocol, disks):
    """All certificates, by the words of [13.3]."""
    logs = [log_of(device) for device, _ in disks]
    wrong = {h: first_wrong(rows, h, protocol) for h, rows in enumerate(logs)}
    found = [("row", h, number) for h, number in wrong.items() if number is not None]
    right = [h for h, number in wrong.items() if number is None]
    for h in right:
        found += [("page", h, k) for k, page in enumerate(disks[h][1]) if not page_right(page, k, len(disks[h][1]), logs[h])]
    begins = {h: {row[1]: row[3] for row in logs[h] if row[0] == "begin"} for h in right}
    ends = {h: {row[1]: row[2] for row in logs[h] if row[0] == "end"} for h in right}
    for h in right:
        for g in right:
            for deal in begins[h]:
                if h < g and deal in begins[g]:
                    if begins[h][deal] != begins[g][deal]:
                        found.append(("houses", deal, h, g))
                    if {ends[h].get(deal), ends[g].get(deal)} == {"kept", "dropped"}:
                        found.append(("unlike", deal, h, g))
    if found:
        return found
    deals = sorted({deal for h in right for deal in begins[h]})
    return [("sound", tuple((deal, next((ends[h][deal] for h in right if deal in ends[h]), "")) for deal in deals))]


class Disks(Checks):
    def test_are_disks(self):
        for thing in ((EMPTY, EMPTY), (EMPTY,) * 3, (EMPTY,) * 4, (EMPTY, disk(CAN_STAND[1])), (((("", "x" * 12), 0), ((5, ()), (0, ()))), EMPTY)):
            self.assertIs(are_disks(thing), True)
            self.assertIs(are_disks(thing=thing), True)
        for thing in (
            (), (EMPTY,), (EMPTY,) * 5, [EMPTY, EMPTY], (EMPTY, list(EMPTY)), (EMPTY, EMPTY[:1]), (EMPTY, EMPTY + (None,)), (EMPTY, (((), 1), ((0, ()),))),
            (EMPTY, (((), 0), ())), (EMPTY, (((), 0), ((True, ()),))), (EMPTY, ((("",), 1), ((0, ()),))), (EMPTY, None), *values_of_any_kind(),
        ):
            self.assertIs(are_disks(thing), False, thing)
            self.refuses(BadDisks, thing, judge_disks, TWO, thing)
            self.refuses(BadDisks, thing, disks_hold, TWO, thing, None)
            for other in (None, (), TWO[0], 0):
                self.refuses(BadProtocol, other, judge_disks, other, thing)
                self.refuses(BadProtocol, other, disks_hold, other, thing, None)

    def test_disks_of(self):
        store = falls(opened(new_store(TWO, 3, 2), (0, 1)), 1, (1,))
        self.same(disks_of(store), tuple(house[:2] for house in store[1]))
        self.same(disks_of(store=new_store(TWO, 2, 1)), (EMPTY, EMPTY))
        for thing in (*values_of_any_kind(), store[:4]):
            self.refuses(BadStore, thing, disks_of, thing)

    def check(self, disks, wanted=None, protocol=MARKS):
        """What is judged is one of all certificates, and just these hold."""
        right = plain_certificates(protocol, disks)
        if wanted is not None:
            self.assertEqual(sorted(right), sorted(wanted))
        self.assertIn(judge_disks(protocol, disks), right)
        for certificate in right:
            self.assertIs(disks_hold(protocol, disks, certificate), True, certificate)
        return right

    def test_rows_that_can_stand(self):
        for rows in CAN_STAND[:-1]:
            deals = tuple(sorted((row[1], next((other[2] for other in rows if other[:2] == ("end", row[1])), "")) for row in rows if row[0] == "begin"))
            as_seen = tuple({B1: B1, B2: B2}.get(row, row) for row in rows)
            self.check((disk(as_seen), EMPTY), [("sound", deals)])

    def test_each_row_that_cannot_stand(self):
        for why, cases in CANNOT_STAND.items():
            for rows, row in cases:
                if row == ("begin", 1, "member", (1, 0)):
                    continue
                number = len(rows) + 1
                self.check((disk(rows + (row,)), EMPTY), [("row", 0, number)])
                # The first one, and not a later one, whatever follows.
                self.check((disk(rows + (row, row, ("begin", 9, "leader", (0, 1)), ("end", 8, "kept"))), EMPTY), [("row", 0, number)])
                right = self.check((EMPTY, EMPTY, disk(rows + (row,))))
                self.assertEqual(right[0][:2], ("row", 2))

    def test_begin_rows_of_the_wrong_house_or_role(self):
        for h, row, is_right in (
            (0, ("begin", 1, "leader", (0, 1)), True), (1, ("begin", 1, "member", (0, 1)), True), (0, ("begin", 1, "member", (0, 1)), False),
            (1, ("begin", 1, "leader", (0, 1)), False), (2, ("begin", 1, "member", (0, 1)), False), (2, ("begin", 1, "leader", (0, 1)), False),
            (2, ("begin", 1, "leader", (2, 3)), True), (1, ("begin", 1, "member", (3, 2, 1)), True),
        ):
            disks = tuple(disk((row,)) if g == h else EMPTY for g in range(3))
            self.check(disks, [("sound", ((1, ""),))] if is_right else [("row", h, 1)])

    def test_marks_of_the_role(self):
        for h, mark, is_right in ((0, "kept", True), (0, "yes", False), (1, "yes", True), (1, "no", False), (0, "dropped", True), (0, "x", False)):
            begin = (B1, OTHER1)[h]
            disks = tuple(disk((begin, ("mark", 1, mark))) if g == h else EMPTY for g in range(2))
            self.check(disks, [("sound", ((1, ""),))] if is_right else [("row", h, 2)], TWO)

    def test_pages(self):
        rows = (B1, R1A, W1A, W1B, ("write", 1, "a", 5, 8), ("undo", 1, "a", 5))
        ages = [all_done(empty_pages(2), rows[:k]) for k in range(7)]
        for first in ages:
            for second in ages:
                self.check((disk(rows, (first[0], second[1])), EMPTY), [("sound", ((1, ""),))])
        for page in (
            (3, ()), (3, (("a", 6),)), (5, (("a", 5),)), (0, (("a", 5),)), (6, (("a", 8),)), (6, (("a", 5), ("c", 1))),
            (1, ()), (2, ()), (4, (("a", 5),)), (7, (("a", 5),)), (10 ** 30, (("a", 5),)),
        ):
            self.check((EMPTY, disk((OTHER1,) + rows[1:], (page, ages[0][1]))), [("page", 1, 0)])
        self.check((disk(rows, ((4, (("a", 5),)), (5, (("b", 6),)))), EMPTY), [("page", 0, 0), ("page", 0, 1)])
        # What of it is safe does not matter here.
        self.check((disk(rows, ages[6], False), EMPTY), [("sound", ((1, ""),))])
        # A log without rows, and a page of another time.
        self.check((EMPTY, (EMPTY[0], ((1, ()),))), [("page", 1, 0)])

    def test_houses(self):
        self.check((disk((B1,)), disk((OTHER1,))), [("sound", ((1, ""),))])
        self.check((disk((B1,)), disk((("begin", 1, "leader", (1, 0)),))), [("houses", 1, 0, 1)])
        disks = (disk((B1,)), disk((OTHER1,)), disk((("begin", 1, "member", (0, 2)),)))
        self.check(disks, [("houses", 1, 0, 2), ("houses", 1, 1, 2)])

    def test_unlike(self):
        kept, dropped = (OTHER1, KEPT1), (B1, ("end", 1, "dropped"))
        self.check((disk(dropped), disk(kept)), [("unlike", 1, 0, 1)])
        self.check((disk((B1,)), disk(kept)), [("sound", ((1, "kept"),))])
        self.check((disk(dropped), disk((OTHER1,))), [("sound", ((1, "dropped"),))])
        both = (disk(dropped + (B2, ("end", 2, "kept"))), disk(kept + (OTHER2, ("end", 2, "dropped"))))
        self.check(both, [("unlike", 1, 0, 1), ("unlike", 2, 0, 1)])
        odd = (disk(dropped), disk((("begin", 1, "leader", (1, 0)), KEPT1)))
        self.check(odd, [("houses", 1, 0, 1), ("unlike", 1, 0, 1)])

    def test_several_faults(self):
        disks = (disk((B1, KEPT1), ((1, ()),)), disk((OTHER1, ("end", 1, "dropped"), R1A)), disk((("begin", 1, "member", (0, 2)), ("end", 1, "dropped"))), disk((B1,), ((9, ()),)))
        # Of a log with a row that cannot stand nothing else is said.
        self.check(disks, [("row", 1, 3), ("row", 3, 1), ("page", 0, 0), ("houses", 1, 0, 2), ("unlike", 1, 0, 2)])

    def test_devices_that_are_not_clean(self):
        sectors, safe = device_with((B1, W1A))
        for more in (("",), ("+begin 9 lea",), ("x" * 12,), (".end 1 odd  ",)):
            self.check((((sectors + more, 0), ((0, ()),)), EMPTY), [("sound", ((1, ""),))])

    def test_certificates_with_something_otherwise(self):
        cases = [
            (disk((B1, KEPT1, B2)), disk((OTHER1, OTHER2))), (disk((B1, R1A, R1A)), EMPTY), (disk((B1,), ((1, ()),)), EMPTY),
            (disk((B1,)), disk((("begin", 1, "leader", (1, 0)),))), (disk((B1, KEPT1)), disk((OTHER1, ("end", 1, "dropped")))), (EMPTY, EMPTY),
        ]
        kinds = set()
        for disks in cases:
            right = self.check(disks)
            for certificate in right:
                kinds.add(certificate[0])
                for thing in spoiled(certificate):
                    self.assertIs(disks_hold(MARKS, disks, thing), repr(thing) in [repr(other) for other in right], thing)
            for other in cases:
                for certificate in plain_certificates(MARKS, other):
                    self.assertIs(disks_hold(MARKS, disks, certificate), certificate in right)
            for thing in values_of_any_kind():
                self.assertIs(disks_hold(MARKS, disks, thing), False)
        self.assertEqual(kinds, {"sound", "row", "page", "houses", "unlike"})
        self.assertIs(disks_hold(thing=("sound", ()), disks=(EMPTY, EMPTY), protocol=TWO), True)
        self.same(judge_disks(disks=(EMPTY, EMPTY), protocol=TWO), ("sound", ()))

    def test_drawn_logs(self):
        source = random.Random(17)
        rows = sorted({row for some in CAN_STAND[:-1] for row in some} | {OTHER1, OTHER2, U1A}, key=repr)
        kinds = []
        for _ in range(300):
            logs = [tuple(source.choice(CAN_STAND[:-1]))[:source.randrange(7)] for _ in range(2)]
            if source.random() < 0.9:
                logs[1] = tuple({B1: OTHER1, B2: OTHER2}.get(row, row) for row in logs[1])
            if source.random() < 0.3:
                at = source.randrange(len(logs[0]) + 1)
                logs[0] = logs[0][:at] + (source.choice(rows),) + logs[0][at:]
            pages = [((0, ()),)] * 2
            if source.random() < 0.4:
                pages[1] = ((source.randrange(5), (("a", 5), ("b", 6))[:source.randrange(3)]),)
            kinds += [certificate[0] for certificate in self.check(tuple(disk(some, page) for some, page in zip(logs, pages)))]
        self.assertGreater(min(kinds.count(kind) for kind in ("sound", "row", "page")), 5)

    def test_disks_of_stores(self):
        for drawn in drawn_runs():
            for store in drawn.stores[::4]:
                certificate = judge_disks(drawn.protocol, disks_of(store))
                self.assertIn(certificate[0], ("sound", "unlike") if drawn.name != "tworounds" else ("sound",))
                self.assertIs(disks_hold(drawn.protocol, disks_of(store), certificate), True)
            self.check(disks_of(store), None, drawn.protocol)

    def test_disks_that_are_unlike(self):
        store = fired(fired(opened(new_store(ONE, 2, 1), (0, 1)), 0, 0, 0), 0, 1, 2)
        self.check(disks_of(store), [("unlike", 0, 0, 1)], ONE)


def is_over(store, deal):
    places, seats = store[2][deal]
    houses = [store[1][house] for house in places]
    return all(house[2] is not None and deal not in dict(house[2][2]) for house in houses) and all(seat[5] for seat in seats)


def stores_from(store, deal, most=400):
    """All stores to which things "up", and "hear" and "fire" of the deal lead, each with a run."""
    found = {store: ()}
    queue = [store]
    for one in queue:
        things = [("up", house) for house in range(len(one[1])) if one[1][house][2] is None]
        places, seats = one[2][deal]
        things += [("fire", deal, house, r) for house in places for r in can_fire(one, deal, house)]
        things += [
            ("hear", deal, places[at], places[start], kind) for number, start, at, kind in one[3]
            if number == deal and seats[at][0] != -1 and (start, kind) not in seats[at][1]
        ]
        for thing in things:
            other = after(one, thing)[0]
            if other not in found:
                found[other] = found[one] + (thing,)
                queue.append(other)
        if len(queue) > most:
            return None
    return found


def is_ending_possible(store, deal):
    found = stores_from(store, deal)
    return None if found is None else any(is_over(other, deal) for other in found)


def waiting_store():
    """The deal 1 waits for what the deal 0 wrote, and cannot be able before; the deal 2 has nothing to do with them."""
    # Nothing but able leads on.
    stiff = read_protocol("leader\nstate\non able force k send k members go 1\nstate kept\nup 0\nup k 1\nmember\nstate\non some k force k go 1\nstate kept\nup 0\nup k 1")
    store = opened(opened(opened(new_store(stiff, 3, 1), (0, 1)), (0, 2)), (1, 2))
    return write(write(store, 0, 0, "a", 1)[0], 1, 0, "a", 2)[0]


class Finishes(Checks):
    def check(self, store):
        """The certificate holds, leads where it says, and what is left cannot be ended."""
        certificate = judge_finish(store)
        self.assertIs(finish_holds(store, certificate), True)
        end = store
        for deal, run in certificate[1]:
            for thing in run:
                self.assertTrue(thing[0] == "up" or (thing[0] in ("hear", "fire") and thing[1] == deal))
            end = behind_run(end, run)
            self.assertTrue(is_over(end, deal))
        done = [deal for deal, _ in certificate[1]]
        self.assertEqual(len(done), len(set(done)))
        left = tuple(deal for deal in range(len(store[2])) if deal not in done)
        self.assertEqual(certificate[2:], () if certificate[0] == "ended" else (left,))
        self.assertEqual(certificate[0] == "ended", left == ())
        for deal in left:
            self.assertIn(is_ending_possible(end, deal), (False, None))
        return certificate

    def test_no_deal(self):
        for store in (new_store(TWO, 2, 1), falls(new_store(TWO, 4, 1), 2, ())):
            self.same(judge_finish(store=store), ("ended", ()))
            self.assertIs(finish_holds(thing=("ended", ()), store=store), True)
            for thing in (("left", (), ()), ("ended", (), ()), ("ended", ((0, ()),)), ("ended", []), ["ended", ()], ("left", ()), ("ended",), ("Ended", ())):
                self.assertIs(finish_holds(store, thing), False, thing)

    def test_deals_that_are_over(self):
        store = fired(fired(opened(new_store(TWO, 2, 1), (0, 1)), 0, 0, 1), 0, 1, 1)
        self.same(self.check(store), ("ended", ((0, ()),)))
        self.assertIs(finish_holds(store, ("ended", ((0, (("hear", 0, 1, 0, "drop"),)),))), True)
        # No deal twice, though nothing is left to be done for it.
        self.assertIs(finish_holds(store, ("ended", ((0, ()), (0, ())))), False)
        for thing in spoiled(("ended", ((0, ()),))):
            self.assertIs(finish_holds(store, thing), self.plain_holds(store, thing), thing)
        # Its end is told, but a house is down, or the deal is open there.
        down = falls(store, 0, ())
        self.same(self.check(down), ("ended", ((0, (("up", 0),)),)))
        self.assertIs(finish_holds(down, ("ended", ((0, ()),))), False)
        cut = amid(opened(new_store(TWO, 2, 1), (0, 1)), ("fire", 0, 0, 1), 0, ())
        self.assertIs(finish_holds(cut, ("ended", ((0, (("up", 0), ("fire", 0, 1, 1))),))), True)
        self.assertIs(finish_holds(cut, ("ended", ((0, (("fire", 0, 1, 1), ("up", 0))),))), True)
        self.assertIs(finish_holds(cut, ("ended", ((0, (("up", 0),)),))), False)

    def test_a_deal_that_is_open_at_a_house(self):
        # Told an end everywhere, but open at the house 1: to a store like this no new store can come.
        store = fired(opened(new_store(TWO, 2, 1), (0, 1)), 0, 0, 1)
        seat = (3, (), True, -1, True, ("dropped",))
        store = replaced(store, (2, 0, 1, 1), seat)
        store = replaced(store, (4,), store[4] + (("told", 0, 1, "dropped"),))
        self.assertIs(finish_holds(store, ("ended", ((0, ()),))), False)
        self.same(self.check(store), ("left", (), (0,)))

    def test_deals_that_wait_for_the_locks_of_others(self):
        store = waiting_store()
        certificate = self.check(store)
        self.assertEqual(certificate[0], "ended")
        order = [deal for deal, _ in certificate[1]]
        self.assertLess(order.index(0), order.index(1))
        runs = dict(certificate[1])
        for other in ((0, 1, 2), (2, 0, 1), (0, 2, 1)):
            self.assertIs(finish_holds(store, ("ended", tuple((deal, runs[deal]) for deal in other))), True)
        for other in ((1, 0, 2), (2, 1, 0), (1, 2, 0), (0, 1), (0, 1, 2, 0), (2,), ()):
            self.assertIs(finish_holds(store, ("ended", tuple((deal, runs[deal]) for deal in other))), False)
        # As long as any of them can be ended, none is left.
        for done, left in (((), (0, 1, 2)), ((0,), (1, 2)), ((2,), (0, 1)), ((0, 1), (2,)), ((0, 2), (1,))):
            self.assertIs(finish_holds(store, ("left", tuple((deal, runs[deal]) for deal in done), left)), False)

    def test_deals_that_cannot_be_ended(self):
        store = waiting_store()
        # The deal 0 cannot be able any more: what waits for it is left, too.
        store = comes_up(falls(store, 1, ()), 1)
        store = comes_up(falls(store, 0, ()), 0)
        certificate = self.check(store)
        self.same([certificate[0], certificate[2]], ["left", (0, 1, 2)])
        store = comes_up(falls(waiting_store(), 1, ()), 1)
        certificate = self.check(store)
        self.same([certificate[0], certificate[2], [deal for deal, _ in certificate[1]]], ["left", (2,), [0, 1]])
        finishing = certificate[1]
        self.assertIs(finish_holds(store, ("left", finishing, (2,))), True)
        for thing in (
            ("left", finishing, ()), ("left", finishing, (2, 2)), ("left", finishing, [2]), ("left", finishing, (1, 2)), ("left", finishing[:1], (1, 2)), ("ended", finishing),
            ("ended", finishing, (2,)), ("left", finishing), ("left", finishing, (2,), 0), ("left", finishing[::-1], (2,)), ("left", list(finishing), (2,)), ("left", finishing, (2.0,)),
        ):
            self.assertIs(finish_holds(store, thing), False, thing)

    def test_certificates_of_others(self):
        store = write(opened(opened(new_store(TWO, 2, 1), (0, 1)), (1, 0)), 0, 0, "a", 1)[0]
        first = {
            "unable": (("fire", 0, 0, 1), ("fire", 0, 1, 1)), "member": (("fire", 0, 1, 1), ("fire", 0, 0, 0), ("fire", 0, 0, 2)),
            "kept": (("fire", 0, 0, 0), ("hear", 0, 1, 0, "ask"), ("fire", 0, 1, 0), ("fire", 0, 1, 0), ("hear", 0, 0, 1, "yes"), ("fire", 0, 0, 0), ("hear", 0, 1, 0, "keep"),
                     ("fire", 0, 1, 0)),
        }
        second = (1, (("fire", 1, 0, 1), ("fire", 1, 1, 1)))
        for run in first.values():
            self.assertIs(finish_holds(store, ("ended", ((0, run), second))), True)
            self.assertIs(finish_holds(store, ("ended", (second, (0, run)))), True)
            # More may follow, as long as the deal is over then.
            more = run + (("fire", 0, 0, 0),) if run != first["member"] else run
            self.assertIs(finish_holds(store, ("ended", ((0, more), second))), more == run)
            for k in range(len(run)):
                self.assertIs(finish_holds(store, ("ended", ((0, run[:k]), second))), False)
        self.assertIs(finish_holds(store, ("ended", ((0, first["kept"] + (("fire", 1, 0, 1),)), (1, (("fire", 1, 1, 1),))))), False)
        self.assertIs(finish_holds(store, ("ended", ((0, (("force", 0),) + first["unable"]), second))), False)
        self.assertIs(finish_holds(store, ("ended", ((0, (("up", 0),) + first["unable"]), second))), False)
        self.assertIs(finish_holds(falls(store, 0, ()), ("ended", ((0, (("up", 0), ("fire", 0, 1, 1))), (1, (("fire", 1, 1, 1),))))), True)
        # The house 2 belongs to no deal: it may come up all the same.
        wide = falls(opened(new_store(TWO, 3, 1), (0, 1)), 2, ())
        self.assertIs(finish_holds(wide, ("ended", ((0, (("up", 2),) + first["unable"]),))), True)
        self.same(self.check(wide)[0], "ended")

    def test_certificates_with_something_otherwise(self):
        for store in (comes_up(falls(waiting_store(), 1, ()), 1), falls(write(opened(new_store(TWO, 2, 1), (1, 0)), 0, 0, "a", 1)[0], 0, ())):
            certificate = judge_finish(store)
            for thing in spoiled(certificate):
                is_right = finish_holds(store, thing)
                self.assertIs(is_right, self.plain_holds(store, thing), thing)
        for thing in values_of_any_kind():
            self.assertIs(finish_holds(store, thing), False)
            self.assertIs(finish_holds(store, ("ended", thing)), False)
            self.assertIs(finish_holds(store, ("ended", ((0, thing),))), False)
            self.assertIs(finish_holds(store, ("left", thing, (0,))), False)
            self.assertIs(finish_holds(store, ("left", (), thing)), False)

    def plain_holds(self, store, thing):
        """Whether a value is a certificate, by the words of [13.5]."""
        if not isinstance(thing, tuple) or thing[:1] not in (("ended",), ("left",)) or len(thing) != {"ended": 2, "left": 3}[thing[0]]:
            return False
        done = []
        if not isinstance(thing[1], tuple):
            return False
        for pair in thing[1]:
            if not isinstance(pair, tuple) or len(pair) != 2 or type(pair[0]) is not int or pair[0] not in range(len(store[2])) or pair[0] in done:
                return False
            deal, run = pair
            if not isinstance(run, tuple) or any(type(event) is not tuple or event[:1] not in (("up",), ("hear",), ("fire",)) for event in run):
                return False
            if any(event[0] != "up" and (len(event) < 2 or event[1] != deal) for event in run):
                return False
            try:
                store = behind_run(store, run)
            except Exception:
                return False
            if not is_over(store, deal):
                return False
            done.append(deal)
        left = [deal for deal in range(len(store[2])) if deal not in done]
        if thing[0] == "ended":
            return left == []
        return left != [] and repr(thing[2]) == repr(tuple(left)) and not any(is_ending_possible(store, deal) for deal in left)

    def test_no_store(self):
        for thing in values_of_any_kind():
            self.refuses(BadStore, thing, judge_finish, thing)
            self.refuses(BadStore, thing, finish_holds, thing, ("ended", ()))

    def test_along_drawn_runs(self):
        source = random.Random(18)
        kinds = []
        for drawn in drawn_runs() + [Drawn(source, "loose", 2, 1, 25, 3, 1) for _ in range(12)]:
            store = source.choice(drawn.stores[-20:])
            if len(store[2]) <= 3:
                certificate = self.check(store)
                kinds.append(certificate[0])
                # tworounds is live, and a deal that waits for a lock can still be dropped.
                self.assertTrue(drawn.name != "tworounds" or certificate[0] == "ended")
        self.assertGreater(kinds.count("ended"), 10)
        self.assertGreater(kinds.count("left"), 2)

    def test_the_same_deals_are_left_in_any_order(self):
        source = random.Random(19)
        for k in range(12):
            drawn = Drawn(source, source.choice(("loose", "slow")), 2, 1, 20, 3, 0.3)
            store = drawn.stores[-1]
            wanted = self.check(store)[2:]
            for _ in range(3):
                deals, end = list(range(len(store[2]))), store
                source.shuffle(deals)
                ended, again = [], True
                while again:
                    again = False
                    for deal in [deal for deal in deals if deal not in ended]:
                        found = stores_from(end, deal)
                        overs = [other for other in found or [] if is_over(other, deal)]
                        if overs:
                            end, again = source.choice(overs), True
                            ended.append(deal)
                left = tuple(deal for deal in range(len(store[2])) if deal not in ended)
                self.same((left,) if left else (), wanted)

    def test_time(self):
        # Three deals with about 300 stores each; in the second store, none of them can be ended.
        store = new_store(LOOSE, 2, 1)
        for places in ((0, 1), (1, 0), (0, 1)):
            store = opened(store, places)
        never = read_protocol(
            "leader\nstate\non timer write a send a members go 1\nstate\non timer write b send b members go 2\nstate\non timer write c send c members go 0\n"
            "up 0\nup a 0\nup b 0\nup c 0\nmember\nstate\non timer write a send a leader go 1\nstate\non some b write b go 0\nup 0\nup a 0\nup b 0"
        )
        stuck = new_store(never, 2, 1)
        for places in ((0, 1), (1, 0), (0, 1)):
            stuck = opened(stuck, places)
        for one, kind in ((store, "ended"), (stuck, "left")):
            start = time.perf_counter()
            certificate = judge_finish(one)
            self.assertIs(finish_holds(one, certificate), True)
            self.assertLess(time.perf_counter() - start, 2)
            self.assertEqual(certificate[0], kind)


if __name__ == "__main__":
    unittest.main()
