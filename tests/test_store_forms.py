"""is_store: each of its clauses broken alone, and stores to which no new store can come."""

import random
import unittest

from allshelves.disks import written
from allshelves.errors import BadStore, TooLate
from allshelves.protocols import known
from allshelves.stores import amid, can_fire, comes_up, ends_of, falls, fired, force, hears, is_store, new_store, opened, read, standing_of, worths_at, write
from draws import LOOSE, drawn_runs
from helpers import Checks, replaced, spoiled, values_of_any_kind
from oracle import store_valid

TWO = known("tworounds")
BEGUN = opened(opened(new_store(TWO, 3, 1), (2, 0)), (0, 1, 2))
WROTE = read(write(write(BEGUN, 0, 2, "a", 5)[0], 1, 1, "c", 1)[0], 1, 0, "d")[0]
ASKED = fired(WROTE, 0, 2, 0)
YES = fired(fired(hears(ASKED, 0, 0, 2, "ask"), 0, 0, 0), 0, 0, 0)
KEPT = fired(hears(YES, 0, 2, 0, "yes"), 0, 2, 0)
DOWN = falls(KEPT, 0, ())


class Stores(Checks):
    def yes(self, *things):
        for thing in things:
            self.assertIs(is_store(thing), True, thing)
            self.assertTrue(store_valid(thing), thing)
            self.assertIsInstance(worths_at(thing, 0), tuple)

    def no(self, *things):
        for thing in things:
            self.assertIs(is_store(thing), False, thing)
            self.assertFalse(store_valid(thing), thing)
            self.refuses(BadStore, thing, force, thing, 0)
            self.refuses(BadStore, thing, worths_at, thing, None)

    def changed(self, path, part, store=KEPT):
        return replaced(store, path, part)

    def test_form(self):
        self.yes(KEPT, DOWN, BEGUN, new_store(TWO, 2, 8), new_store(LOOSE, 4, 1))
        self.no(KEPT[:4], KEPT + ((),), list(KEPT), *[self.changed((k,), list(KEPT[k])) for k in range(5)])
        self.no(*[self.changed((k,), other) for k in range(5) for other in (None, 0, "", {}, True)])

    def test_protocol(self):
        self.no(self.changed((0,), ()), self.changed((0,), TWO[0]), self.changed((0,), TWO[::-1]))
        # Another protocol does as long as it has the states, marks and kinds that are there.
        self.yes(self.changed((0,), known("lazy")), self.changed((0,), LOOSE, BEGUN))
        self.no(self.changed((0,), known("oneround")), self.changed((0,), LOOSE))

    def test_houses(self):
        houses = KEPT[1]
        self.yes(self.changed((1,), houses + (new_store(TWO, 2, 1)[1][0],)), self.changed((1,), houses + (falls(new_store(TWO, 2, 3), 0, ())[1][0],)))
        self.no(self.changed((1,), houses[:2]), self.changed((1,), houses + new_store(TWO, 2, 1)[1]), self.changed((1,), ()), new_store(TWO, 2, 1)[:1] + (houses[:1],) + ((), (), ()))
        for k in range(3):
            self.no(self.changed((1, k), None), self.changed((1, k), houses[k][:2]), self.changed((1, k, 2, 1), ((("q", 7, "read"),), ())))
        self.no(self.changed((1,), (houses[1], houses[0], houses[2])))

    def test_deals(self):
        first, second = KEPT[2]
        self.no(self.changed((2,), (second, first)), self.changed((2,), (first,)), self.changed((2, 0), first[:1]), self.changed((2, 0), first + ((),)))
        self.no(self.changed((2, 0), list(first)), self.changed((2, 0, 1), list(first[1])), self.changed((2, 0, 0), [2, 0]), self.changed((2, 0, 1), first[1][:1]))
        # A deal of which no log has a row.
        more = (0, (), True, -1, True, ())
        self.yes(self.changed((2,), (first, second, ((0, 1), (more, more)))), self.changed((2,), (first, second, ((2, 1, 0), (more,) * 3))))
        for houses in ((0,), (0, 0), (0, 3), (0, -1), (0, True), (0, 1, 2, 0), [0, 1]):
            self.no(self.changed((2,), (first, second, (houses, (more,) * len(houses)))))
        self.no(self.changed((2,), (first, second, ((0, 1), (more,) * 3))), self.changed((2,), (first, second, ((0, 1, 2), (more,) * 2))))

    def test_seats(self):
        # The leader of the deal 0 at the house 2, in the state "kept" of tworounds.
        path = (2, 0, 1, 0)
        self.same(KEPT[2][0][1][0], (2, ((1, "yes"),), True, 0, True, ("kept",)))
        for k, others in enumerate((
            (-1, 4, None, True, "2"), (((0, "yes"),), ((1, "maybe"),), ((2, "yes"),), ((1, "yes"), (1, "ask")), [(1, "yes")], ((True, "yes"),), None),
            (0, 1, None, "True"), (-2, 3, True, None), (1, 0, None), (("dropped",), (), ("kept", "dropped"), ("lost",), ["kept"], None, "kept"),
        )):
            self.no(*[self.changed(path + (k,), other) for other in others])
        for k, others in enumerate(((0, 1, 3), ((), ((1, "ask"), (1, "yes"))), (False,), (-1, 1, 2), (False,))):
            self.yes(*[self.changed(path + (k,), other) for other in others])
        self.no(self.changed(path, KEPT[2][0][1][0][:5]), self.changed(path, KEPT[2][0][1][0] + (0,)), self.changed(path, list(KEPT[2][0][1][0])))

    def test_down_exactly_with_the_house(self):
        self.same([DOWN[2][0][1][1][:3], DOWN[2][1][1][0][:3]], [(-1, (), False)] * 2)
        for path in ((2, 0, 1, 1), (2, 1, 1, 0)):
            seat = DOWN[2][path[1]][1][path[3]]
            self.no(self.changed(path + (0,), 0, DOWN), self.changed(path + (0,), 3, DOWN))
            self.no(self.changed(path + (1,), ((0, "ask"),), DOWN) if path[1] == 0 else self.changed(path + (1,), ((1, "ask"),), DOWN))
            self.no(self.changed(path + (2,), True, DOWN))
            self.no(self.changed(path, (-1, (), False) + seat[3:], KEPT))
            self.yes(self.changed(path + (4,), not seat[4], DOWN), self.changed(path + (3,), 2, DOWN))

    def test_marks_of_a_house_that_is_down_are_safe(self):
        (sectors, safe), pages, _ = DOWN[1][0]
        self.same(standing_of(DOWN, 0)[0][1][2:4], (("yes",), 1))
        self.no(self.changed((1, 0), ((sectors, 0), pages, None), DOWN), self.changed((1, 0), ((sectors, safe - 1), pages, None), DOWN))
        self.yes(self.changed((1, 0), ((sectors + ("",), safe), pages, None), DOWN))
        # Of a deal without marks nothing need be safe.
        house = falls(BEGUN, 0, ())[1][0]
        self.yes(self.changed((1, 0), ((house[0][0], 0), house[1], None), falls(BEGUN, 0, ())))

    def test_marks_are_those_of_the_role(self):
        # "yes" is a mark of members alone; the house 1 is a member of the deal 1, the house 0 leads it.
        for house, mark, is_right in ((0, "yes", False), (0, "kept", True), (1, "yes", True), (1, "no", False), (0, "x", False)):
            device = written(KEPT[1][house][0], ("mark", 1, mark))
            (self.yes if is_right else self.no)(self.changed((1, house, 0), device))

    def test_sent(self):
        self.same(KEPT[3], ((0, 0, 1, "ask"), (0, 0, 1, "keep"), (0, 1, 0, "yes")))
        for letters in (
            KEPT[3][::-1], KEPT[3] + KEPT[3][2:], KEPT[3] + ((2, 0, 1, "ask"),), ((-1, 0, 1, "ask"),) + KEPT[3], KEPT[3] + ((True, 0, 1, "ask"),),
            KEPT[3] + ((0, 1, 2, "ask"),), KEPT[3] + ((0, 2, 0, "ask"),), KEPT[3] + ((1, 0, 0, "ask"),), KEPT[3] + ((1, 0, 1, "say"),), list(KEPT[3]),
            KEPT[3] + ([1, 0, 1, "ask"],), KEPT[3] + ((1, 0, 1),), KEPT[3] + ((1, 0, True, "ask"),), KEPT[3] + ((1, 0, 1, None),), (None,), "",
            ((1, 0, 1, "ask"),) + KEPT[3],
        ):
            self.no(self.changed((3,), letters))
        for letters in ((), KEPT[3][:1], KEPT[3] + ((1, 0, 2, "ask"), (1, 2, 0, "keep"), (1, 2, 1, "yes"))):
            self.yes(self.changed((3,), letters))

    def test_logs(self):
        device = KEPT[1][1][0]
        for row in (("begin", 0, "member", (2, 0)), ("begin", 2, "member", (2, 0)), ("begin", 10 ** 30, "leader", (1, 0))):
            house = self.changed((1, 1, 2, 2), ((row[1], False), (1, True)) if row[1] == 0 else ((1, True), (row[1], False)))
            self.no(replaced(house, (1, 1, 0), written(device, row)))
        # In a store with a deal 2 at 1 and 0, the row of 2 must be as the deal is.
        more = (0, (), True, -1, True, ())
        store = self.changed((2,), KEPT[2] + (((1, 0), (more, more)),))
        store = replaced(store, (1, 1, 2, 2), ((1, True), (2, False)))
        for row, is_right in (
            (("begin", 2, "leader", (1, 0)), True), (("begin", 2, "member", (1, 0)), False), (("begin", 2, "leader", (1, 2)), False),
            (("begin", 2, "leader", (0, 1)), False), (("begin", 2, "member", (0, 1)), False), (("begin", 2, "leader", (1, 0, 2)), False),
        ):
            (self.yes if is_right else self.no)(replaced(store, (1, 1, 0), written(device, row)))

    def test_past(self):
        past = KEPT[4]
        self.same(past, (("write", 0, 2, "a", 5), ("write", 1, 1, "c", 1), ("read", 1, 0, "d", None), ("told", 0, 2, "kept")))
        for other in (
            past[:3], past + past[3:], past + (("told", 0, 0, "kept"),), past + (("told", 0, 2, "dropped"),), past[:3] + (("told", 0, 2, "dropped"),),
            past[:3] + (("told", 1, 2, "kept"),), past[:3] + (("told", 0, 0, "kept"),), past[:3] + (("told", 0, 2),), past[:3] + (["told", 0, 2, "kept"],),
            past[:3] + (("told", 0, 2, "kept", 1),), past[:3] + (("tell", 0, 2, "kept"),), past + (("told", 0, 2, ""),), list(past), past + (None,),
            past + (("tell", 0, 2, "kept"),), past + (("read", 0, 2, "kept"),), past + (("told", 0, 2, None),), past + (("told", 0, 2, ["kept"]),),
        ):
            self.no(self.changed((4,), other))
        for event in (
            ("read", 2, 0, "a", 1), ("read", 0, 1, "a", 1), ("read", -1, 0, "a", 1), ("read", True, 0, "a", 1), ("read", 0, 3, "a", 1), ("read", 0, False, "a", 1),
            ("read", 0, 0, "A", 1), ("read", 0, 0, "", 1), ("read", 0, 0, 0, 1), ("read", 0, 0, "a", True), ("read", 0, 0, "a", "1"), ("read", 0, 0, "a"),
            ("undo", 0, 0, "a", 1), ("write", 0, 0, "a", 1, 2), ["write", 0, 0, "a", 1], (["write"], 0, 0, "a", 1), ("write", [0], 0, "a", 1), ("write", 0, [0], "a", 1),
        ):
            self.no(self.changed((4,), past + (event,)), self.changed((4,), (event,) + past))
        for event in (("read", 0, 0, "z", None), ("write", 0, 2, "a", -(10 ** 30)), ("write", 1, 2, "a", 0), past[0]):
            self.yes(self.changed((4,), past + (event,)), self.changed((4,), (event,) + past))
        self.yes(self.changed((4,), past[3:]), self.changed((4,), past[::-1]))

    def test_values_of_any_kind(self):
        for thing in values_of_any_kind():
            self.no(thing)
            for k in range(5):
                if thing != () or k < 2:
                    self.no(self.changed((k,), thing))

    def test_spoiled(self):
        source = random.Random(6)
        chosen = [drawn.stores[source.randrange(20, 30)] for drawn in drawn_runs()[:12]]
        for store in [KEPT, DOWN, *chosen]:
            for thing in spoiled(store[1:]):
                if source.random() < 0.02:
                    thing = (store[0],) + thing if isinstance(thing, tuple) else thing
                    self.assertIs(is_store(thing), store_valid(thing), thing)


class Strange(Checks):
    """To these stores no new store can come."""

    def test_a_state_with_an_end_at_which_the_deal_is_open(self):
        store = replaced(KEPT, (2, 1, 1, 1), (4, (), True, -1, True, ()))
        self.assertIs(is_store(store), True)
        self.assertEqual(self.refused(TooLate, read, store, 1, 1, "q").deal, 1)
        self.same(ends_of(store, 1), ((), (), ()))
        # Where the leader comes to its state "kept" again, the deal is told kept and ended.
        store = replaced(replaced(KEPT, (2, 1, 1, 0), (2, ((1, "what"),), True, -1, True, ())), (3,), ())
        store = fired(store, 1, 0, 0)
        self.same([ends_of(store, 1), store[1][0][2][2], store[4][-1]], [(("kept",), (), ()), ((0, True),), ("told", 1, 0, "kept")])
        self.same(worths_at(store, 0), ())

    def test_able_is_said_twice(self):
        # The deal is able by what the house knows, and not by its role, and the other way round.
        store = replaced(KEPT, (2, 1, 1, 0, 2), False)
        self.same([is_store(store), can_fire(store, 1, 0), read(store, 1, 0, "q")[1]], [True, (1,), ("worth", None)])
        store = replaced(KEPT, (1, 0, 2, 2), ((0, True), (1, False)))
        self.same([is_store(store), can_fire(store, 1, 0)], [True, (0, 1)])
        self.assertEqual(self.refused(TooLate, read, store, 1, 0, "q").deal, 1)

    def test_said_though_nothing_was_written(self):
        store = replaced(WROTE, (2, 1, 1, 0, 3), 2)
        self.same(is_store(store), True)
        self.assertEqual(self.refused(TooLate, read, store, 1, 0, "q").deal, 1)
        self.same(falls(store, 0, ())[2][1][1][0], (-1, (), False, 2, False, ()))
        self.same(fired(store, 1, 0, 0)[2][1][1][0][3], 2)

    def test_letters_that_nobody_sent(self):
        store = replaced(WROTE, (3,), ((1, 2, 1, "keep"),))
        self.same(hears(store, 1, 1, 2, "keep")[2][1][1][1][1], ((2, "keep"),))
        store = replaced(WROTE, (2, 1, 1, 1, 1), ((0, "ask"),))
        self.same([is_store(store), can_fire(store, 1, 1)], [True, (0, 1)])

    def test_a_house_that_is_down_with_sectors_behind_its_log(self):
        (sectors, safe), pages, _ = DOWN[1][0]
        store = replaced(DOWN, (1, 0), ((sectors + ("", ".mark 1 kept"), safe), pages, None))
        self.same([is_store(store), worths_at(store, 0)], [True, worths_at(DOWN, 0)])
        self.same(comes_up(store, 0), comes_up(DOWN, 0))

    def test_deals_that_do_not_come_up_do_not_fall(self):
        # The deal 1 is whole though it fell before it said anything; only its own turn would change that.
        store = falls(opened(opened(new_store(TWO, 2, 1), (0, 1)), (1, 0)), 0, ())
        store = replaced(store, (2, 1, 1, 1, 4), True)
        self.same([is_store(store), amid(store, ("up", 0), 0, ())[2][1]], [True, store[2][1]])
        self.same(amid(store, ("up", 0), 0, ())[2][0][1][0], (-1, (), False, -1, False, ("dropped",)))

    def test_pages_of_other_numbers(self):
        store = replaced(KEPT, (1,), KEPT[1] + (new_store(TWO, 2, 8)[1][0],))
        self.same(worths_at(write(opened(store, (3, 1)), 2, 3, "z", 1)[0], 3), (("z", 1),))


if __name__ == "__main__":
    unittest.main()
