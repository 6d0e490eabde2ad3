"""is_house: each of its clauses broken alone, for houses that are up and that are down."""

import random
import unittest

from allshelves.disks import written
from allshelves.errors import BadHouse
from allshelves.houses import come_up, is_house, open_deals
from allshelves.tables import all_done, empty_pages
from helpers import Checks, spoiled, values_of_any_kind
from logrows import B1, B2, CAN_STAND, CANNOT_STAND, KEPT1, M1, R1A, U1A, U1B, W1A, W1B, device_with, house_down, house_up
from oracle import can_stand, first_wrong, house_valid

# a and c belong to the first of two pages, b to the second.
ROWS = (B1, B2, R1A, W1A, ("read", 2, "d"), W1B, ("write", 1, "a", 5, 8), ("write", 2, "c", None, 1))
UP, DOWN = house_up(ROWS, 2, True), house_down(ROWS, 2)
AGES = [all_done(empty_pages(2), ROWS[:k]) for k in range(len(ROWS) + 1)]


class Houses(Checks):
    def yes(self, *things):
        for thing in things:
            self.assertIs(is_house(thing), True, thing)
            self.assertTrue(house_valid(thing), thing)
            self.assertIsInstance(open_deals(thing), tuple)

    def no(self, *things):
        for thing in things:
            self.assertIs(is_house(thing), False, thing)
            self.assertFalse(house_valid(thing), thing)
            self.refuses(BadHouse, thing, open_deals, thing)
            self.refuses(BadHouse, thing, come_up, thing)

    def test_form(self):
        self.yes(UP, DOWN)
        self.assertIs(is_house(thing=UP), True)
        self.no(UP[:2], UP + (None,), list(UP), (None,) + UP[1:], (UP[0], None, UP[2]), (UP[0], UP[1], ()), (UP[0], UP[1], False))
        table, locks, deals = UP[2]
        for run in ((table, locks), (table, locks, deals, ()), [table, locks, deals], (list(table), locks, deals), (table, list(locks), deals)):
            self.no(UP[:2] + (run,))
        for other in (list(deals), deals + deals, deals[::-1], (deals[0],), deals + ((3, True),), ((1, 1), (2, 1)), ((1, None), (2, True)),
                      ((True, True), (2, True)), ((1,), (2, True)), ([1, True], (2, True)), (1, 2), None, ((1, True, 1), (2, True))):
            self.no(UP[:2] + ((table, locks, other),))

    def test_pages_and_devices(self):
        sectors, safe = UP[0]
        for house in (UP, DOWN):
            self.no(((list(sectors), safe),) + house[1:], ((sectors, safe + 1),) + house[1:], (sectors,) + house[1:])
            self.no((house[0], (), house[2]), (house[0], ((0, (("b", 1),)), (0, ())), house[2]), (house[0], list(house[1]), house[2]))

    def test_rows_that_can_stand(self):
        for rows in CAN_STAND:
            self.assertIsNone(first_wrong(rows))
            for many in (1, 2):
                self.yes(house_up(rows, many), house_down(rows, many))

    def test_each_kind_of_row_that_cannot_stand(self):
        for why, cases in CANNOT_STAND.items():
            for rows, row in cases:
                self.assertIsNone(first_wrong(rows), (why, rows))
                self.assertFalse(can_stand(row, rows), (why, rows, row))
                self.yes(house_down(rows))
                self.no(house_down(rows + (row,)), house_up(rows + (row,)))
                # Nor if it is not the last row.
                self.no(house_down(rows + (row, ("begin", 77, "leader", (0, 1)))))

    def test_what_depends_on_the_house_does_not_matter(self):
        for row in (("begin", 1, "leader", (2, 3)), ("begin", 1, "member", (0, 1)), ("begin", 1, "leader", (1, 0))):
            self.yes(house_down((row, ("mark", 1, "anything"))), house_up((row, ("mark", 1, "anything"))))

    def test_pages_of_each_age(self):
        for house in (UP, DOWN):
            for first in AGES:
                for second in AGES:
                    self.yes((house[0], (first[0], second[1]), house[2]))

    def test_pages_that_say_something_else(self):
        for house in (UP, DOWN):
            for page in (
                (4, ()), (4, (("a", 6),)), (7, (("a", 5),)), (4, (("a", 5), ("c", 1))), (0, (("a", 5),)), (8, (("c", 1),)), (7, (("a", 8), ("c", 1))),
                # The numbers of rows that are none of its keys, that are no changes, or that do not exist.
                (6, (("a", 5),)), (5, (("a", 5),)), (3, ()), (1, ()), (9, (("a", 8), ("c", 1))), (10 ** 30, (("a", 8), ("c", 1))),
            ):
                self.no((house[0], (page, AGES[0][1]), house[2]))

    def test_keys_that_come_to_a_page_in_any_order(self):
        rows = (B1, ("write", 1, "c", None, 1), W1B, W1A, ("write", 1, "bb", None, 2))
        for house in (house_up(rows, 1), house_down(rows, 1)):
            self.yes((house[0], ((5, (("a", 5), ("b", 6), ("bb", 2), ("c", 1))),), house[2]), (house[0], ((3, (("b", 6), ("c", 1))),), house[2]))

    def test_undo_rows_on_pages(self):
        rows = (B1, W1A, W1B, U1B, U1A)
        for house in (house_up(rows, 1), house_down(rows, 1)):
            for page in ((0, ()), (2, (("a", 5),)), (3, (("a", 5), ("b", 6))), (4, (("a", 5),)), (5, ())):
                self.yes((house[0], (page,), house[2]))
            for page in ((4, (("a", 5), ("b", 6))), (5, (("a", 5),)), (2, ()), (1, ())):
                self.no((house[0], (page,), house[2]))

    def test_pages_that_say_more_than_the_safe_sectors(self):
        ends = [len(device_with(ROWS[:k])[0]) for k in range(len(ROWS) + 1)]
        for house in (UP, DOWN):
            for number in (4, 7, 8):
                page = AGES[number][0]
                for safe in range(len(house[0][0]) + 1):
                    other = ((house[0][0], safe), (page, AGES[0][1]), house[2])
                    (self.yes if safe >= ends[number] else self.no)(other)

    def test_devices_of_houses_that_are_up(self):
        sectors, safe = UP[0]
        for more in (("",), ("+mark 1 yess",), (".mark 1 yes ", ""), ("x" * 12,), (".mark 1 y  e",)):
            self.no(((sectors + more, safe),) + UP[1:])
            self.yes(((sectors + more, safe),) + DOWN[1:])
        self.yes(((sectors + ("", ".mark 1 yes "), safe),) + DOWN[1:])
        self.no((written(UP[0], M1),) + UP[1:-1] + ((UP[2][0], UP[2][1], UP[2][2][:1]),))
        self.yes((written(UP[0], M1),) + UP[1:])

    def test_tables(self):
        _, locks, deals = UP[2]
        for table in (*AGES[:-1], AGES[-1][::-1], AGES[-1] + ((0, ()),), AGES[-1][:1], (AGES[-1][0], (5, AGES[-1][1][1])), ((8, (("a", True), ("c", 1))), AGES[-1][1])):
            self.no(UP[:2] + ((table, locks, deals),))
        self.no(UP[:2] + ((all_done(empty_pages(1), ROWS), locks, deals),))

    def test_open_deals(self):
        table, locks, deals = UP[2]
        for other in ((), ((1, True),), ((2, True),), ((0, True),) + deals, deals + ((3, False),), ((1, True), (3, True))):
            self.no(UP[:2] + ((table, locks, other),))
        for other in (((1, False), (2, True)), ((1, True), (2, False)), ((1, False), (2, False))):
            self.yes(UP[:2] + ((table, locks, other),))
        ended = house_up(ROWS + (KEPT1,), 2, True)
        self.yes(ended)
        self.no(ended[:2] + (ended[2][:2] + (deals,),), ended[:2] + ((ended[2][0], locks, ended[2][2]),))

    def with_locks(self, locks, ables=(True, True), house=UP):
        return house[:2] + ((house[2][0], locks, tuple(zip((1, 2), ables))),)

    def test_locks(self):
        held = UP[2][1][0]
        self.same(held, (("a", 1, "write"), ("b", 1, "write"), ("c", 2, "write"), ("d", 2, "read")))
        for k in range(len(held)):
            self.no(self.with_locks((held[:k] + held[k + 1:], ())))
        for k in range(3):
            self.no(self.with_locks((held[:k] + (held[k][:2] + ("read",),) + held[k + 1:], ())))
        # More than the rows say may be held.
        self.yes(self.with_locks((held[:3] + (("d", 2, "write"),), ())), self.with_locks((held + (("e", 1, "read"), ("e", 2, "read")), ())))
        self.yes(self.with_locks((held + (("e", 1, "write"),), ()), (False, False)), self.with_locks((held[:3] + (("d", 1, "read"),) + held[3:], ())))

    def test_who_holds_and_waits(self):
        held = UP[2][1][0]
        self.no(self.with_locks((held + (("e", 3, "read"),), ())), self.with_locks((held + (("e", 0, "read"),), ())))
        self.no(self.with_locks((held, ((3, "a", "read"),))), self.with_locks((held, ((0, "e", "read"),))))
        self.yes(self.with_locks((held, ((2, "a", "read"),))), self.with_locks((held, ((1, "c", "write"), (2, "a", "read")))))
        self.no(self.with_locks((held, ((2, "a", "read"),)), (True, False)), self.with_locks((held, ((1, "c", "read"),)), (False, True)))
        self.no(self.with_locks((held, ((1, "a", "read"),))), self.with_locks((held, ((2, "a", "read"), (2, "b", "read")))))

    def test_deals_with_an_undo_row_are_not_able(self):
        rows = (B1, B2, W1A, U1A)
        self.yes(house_up(rows), house_up((B1, B2, W1A, U1A, ("end", 1, "dropped")), able=True), house_up(rows[:-1], able=True))
        self.no(house_up(rows, able=True))
        house = house_up(rows)
        self.yes(self.with_locks(house[2][1], (False, True), house))
        self.no(self.with_locks(house[2][1], (True, False), house))

    def test_values_of_any_kind(self):
        self.no(*values_of_any_kind())

    def test_spoiled(self):
        source = random.Random(5)
        for house in (UP, DOWN, self.with_locks((UP[2][1][0], ((2, "a", "read"),))), house_up((B1, B2, W1A, M1, U1A)), house_down((B1, W1A, U1A))):
            for thing in spoiled(house):
                if source.random() < 0.3:
                    self.assertIs(is_house(thing), house_valid(thing), thing)


if __name__ == "__main__":
    unittest.main()
