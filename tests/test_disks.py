"""[6.2] to [6.4]: sectors and devices."""

import unittest
from itertools import combinations

from allshelves.disks import cut, forced, is_device, is_log_row, length_of, log_of, mended, row_text, sectors_of, written
from allshelves.errors import BadDevice, BadLost, BadRow
from helpers import Checks, spoiled, values_of_any_kind

EMPTY = ((), 0)
BEGIN, WRITE, MARK = ("begin", 3, "member", (0, 1)), ("write", 3, "apple", None, 5), ("mark", 3, "able")
LONG = ("write", 123456789, "abcdefghij", -123456789, -123456789)
END = ("end", 3, "kept")
BLANK = ""
DEVICE = written(written(forced(written(EMPTY, BEGIN)), WRITE), MARK)
CUT = cut(DEVICE, (3,))
SHORT_MARK = ".mark 3 a   "


def device_with(rows, many_forced):
    """A clean device with some rows, the first ones forced."""
    device = EMPTY
    for k, row in enumerate(rows):
        device = written(device, row)
        if k + 1 == many_forced:
            device = forced(device)
    return device


def all_lost(device, most=None):
    """All sets of sectors that a device can lose."""
    places = range(device[1], len(device[0]))
    sizes = range(len(places) + 1 if most is None else most + 1)
    return [lost for many in sizes for lost in combinations(places, many)]


class Sectors(Checks):
    def test_lengths_of_texts(self):
        for row, sectors in (
            (("end", 3, "kept"), (".end 3 kept ",)),
            (("mark", 3, "able"), (".mark 3 able",)),
            (("mark", 3, "unable"), ("+mark 3 unab", ".le         ")),
            (("mark", 33, "able"), ("+mark 33 abl", ".e          ")),
            (("write", 3, "apple", 12345, 5), ("+write 3 app", ".le 12345 5 ")),
            (("write", 3, "apple", 12345, 67), ("+write 3 app", ".le 12345 67")),
            (("write", 3, "apple", 12345, 678), ("+write 3 app", "+le 12345 67", ".8          ")),
            (("read", 3, "a"), (".read 3 a   ",)),
            (("write", 3, "applea", None, 5), ("+write 3 app", ".lea - 5    ")),
        ):
            self.same(sectors_of(row), sectors)
            self.same(sectors_of(row=row), sectors)
        # The first cases have texts of 10, 11, 12, 12, 21, 22 and 23 characters.
        lengths = [len(row_text(row)) for row in (END, MARK, ("mark", 33, "able"), ("write", 3, "apple", 12345, 67))]
        self.assertEqual(lengths, [10, 11, 12, 22])

    def test_a_piece_may_end_with_a_blank(self):
        self.same(sectors_of(("write", 3, "abcd", 1, 2)), ("+write 3 abc", ".d 1 2      "))
        row = ("write", 3, "ab", 12, 5)
        self.same(sectors_of(row), ("+write 3 ab ", ".12 5       "))
        self.same(log_of(written(EMPTY, row)), (row,))

    def test_each_kind_of_row(self):
        for row in (
            BEGIN, ("begin", 10, "leader", (3, 2, 1, 0)), WRITE, LONG, ("read", 0, "k"), ("undo", 4, "key", None), ("undo", 4, "key", -7),
            ("write", 1, "b", 10 ** 39, None), MARK, ("end", 20, "dropped"),
        ):
            sectors = sectors_of(row)
            self.assertEqual({len(sector) for sector in sectors}, {12})
            self.assertEqual([sector[0] for sector in sectors], ["+"] * (len(sectors) - 1) + ["."])
            self.assertEqual("".join(sector[1:] for sector in sectors).rstrip(), row_text(row))
            device = written(EMPTY, row)
            self.same(device, (sectors, 0))
            self.same([log_of(device), length_of(device)], [(row,), len(sectors)])


class Devices(Checks):
    def yes(self, thing):
        self.assertIs(is_device(thing), True, thing)
        self.assertIs(is_device(thing=thing), True)
        self.assertIsInstance(log_of(thing), tuple)

    def no(self, thing):
        self.assertIs(is_device(thing), False, thing)
        for function in (log_of, length_of, forced, mended):
            self.refuses(BadDevice, thing, function, thing)
        self.refuses(BadDevice, thing, written, thing, END)
        self.refuses(BadDevice, thing, cut, thing, ())

    def test_devices(self):
        for safe in range(6):
            self.yes((DEVICE[0], safe))
        for sectors in ((), (BLANK,), (BLANK, BLANK), ("x" * 12,), ("~ ~ ~ ~ ~ ~ ",), (BLANK, SHORT_MARK), (SHORT_MARK, BLANK)):
            self.yes((sectors, 0))
        self.yes(((SHORT_MARK, BLANK), 1))
        self.yes((("x" * 12,), 1))
        self.yes(((SHORT_MARK, BLANK, SHORT_MARK), 1))

    def test_safe(self):
        for safe in (6, -1, True, False, None, "2", (2,), 10 ** 39):
            self.no((DEVICE[0], safe))
        for safe in (1, -1, True, False, None):
            self.no(((), safe))

    def test_blank_sectors_are_not_safe(self):
        self.no(((BLANK,), 1))
        self.no(((SHORT_MARK, BLANK), 2))
        self.no(((BLANK, SHORT_MARK), 1))
        self.no(((SHORT_MARK, BLANK, SHORT_MARK), 3))

    def test_sectors(self):
        for sector in (" ", "x" * 11, "x" * 13, None, 0, True, ("x" * 12,), ["x" * 12], {}, b"x" * 12, tuple("x" * 12), ()):
            self.no(((sector,), 0))
            self.no(((SHORT_MARK, sector), 1))

    def test_pairs(self):
        for thing in (
            ((),), ((), 0, 0), [(), 0], ([], 0), (0, ()), ("", 0), ("x" * 12, 0), (list(DEVICE[0]), 2), DEVICE[0], DEVICE + (2,),
        ):
            self.no(thing)

    def test_values_of_any_kind(self):
        for thing in values_of_any_kind():
            self.no(thing)
            if repr(thing) not in ("0", "1", "5"):
                self.no((DEVICE[0], thing))
            if thing not in ((), (BLANK, BLANK)):
                self.no((thing, 0))
            if thing != "":
                self.no(((SHORT_MARK, thing), 0))

    def test_spoiled_devices(self):
        right = 0
        for thing in spoiled(DEVICE):
            if is_device(thing):
                right += 1
                self.yes(thing)
            else:
                self.no(thing)
        self.assertGreater(right, 10)


class Logs(Checks):
    def log_is(self, sectors, rows, many, safe=0):
        device = (tuple(sectors), safe)
        self.same(log_of(device), tuple(rows))
        self.same(log_of(device=device), tuple(rows))
        self.same(length_of(device), many)
        self.same(length_of(device=device), many)

    def test_whole_logs(self):
        self.log_is((), (), 0)
        self.log_is(DEVICE[0], (BEGIN, WRITE, MARK), 5)
        self.log_is(DEVICE[0] * 3, (BEGIN, WRITE, MARK) * 3, 15)
        # No more is asked of rows here: they need not make sense together.
        self.log_is(sectors_of(END) * 2, (END, END), 2)

    def test_the_safe_sectors_do_not_matter(self):
        for safe in range(6):
            self.log_is(DEVICE[0], (BEGIN, WRITE, MARK), 5, safe)

    def test_a_blank_sector(self):
        for at, rows, many in ((0, (), 0), (1, (), 0), (2, (BEGIN,), 2), (3, (BEGIN,), 2), (4, (BEGIN, WRITE), 4), (5, (BEGIN, WRITE, MARK), 5)):
            self.log_is(DEVICE[0][:at] + (BLANK,) + DEVICE[0][at + 1:], rows, many)
            self.log_is(DEVICE[0][:at] + (BLANK,) + DEVICE[0][at:], rows, many)

    def test_an_incomplete_row(self):
        long = sectors_of(LONG)
        self.assertEqual(len(long), 5)
        for k in range(5):
            self.log_is(DEVICE[0] + long[:k], (BEGIN, WRITE, MARK), 5)
            self.log_is(DEVICE[0] + long[:k] + (BLANK,) + long[k + 1:], (BEGIN, WRITE, MARK), 5)
            self.log_is(DEVICE[0] + long[:k] + long[k + 1:], (BEGIN, WRITE, MARK), 5)
            if k > 0:
                self.log_is(DEVICE[0] + long[:k] + DEVICE[0], (BEGIN, WRITE, MARK), 5)
        self.log_is(DEVICE[0] + long + (BLANK,), (BEGIN, WRITE, MARK, LONG), 10)

    def test_sectors_of_no_row(self):
        end = sectors_of(END)
        for sectors in (
            ("x" * 12,), (" end 3 kept ",), ("-end 3 kept ",), ("+end 3 kept ",), (".end 3 keep ",), (".end 3 kept.",), (". end 3 kept",),
            (".end  3 kept",), (".end 03 kept",), (".           ",), ("+           ", ".           "), (".End 3 kept ",), (".END 3 KEPT ",),
            (".end 3 ke   ",), ("+end 3 kept ", ".           "), ("+end 3      ", ".kept       "), ("+end 3 kep  ", ".t          "),
            ("+mark 3 able", ".           "), ("+" + "e" * 11,), (".end 3 kept\n",), ("+mark 3 unab", "+le         "),
            ("+mark 3 unab", " le         "), ("+mark 3 unab", ".le        x"), ("+mark 3 unab", "x" * 12, ".le         "),
        ):
            self.log_is(end + sectors + end, (END,), 1)
            self.log_is(sectors + end, (), 0)
            self.log_is(end + sectors, (END,), 1)

    def test_a_row_in_other_pieces_than_its_own(self):
        # The text is right, but it is not cut where it has to be.
        for sectors in (("+mark 3     ", ".able       "), ("+mark 3 able", ".           ")):
            self.log_is(sectors, (), 0)
        for text in ("mark 3 unable", "write 3 apple 12345 67"):
            pieces = [text[:10], text[10:20], text[20:]]
            sectors = tuple(f"+{piece:<11}" for piece in pieces[:-1]) + (f".{pieces[-1]:<11}",)
            self.log_is(sectors, (), 0)

    def test_a_sector_of_another_row_within(self):
        self.log_is(("+begin 3 mem", ".le 12345 5 "), (), 0)
        # Two rows of the same kind can be mixed into a third one.
        self.log_is(("+write 3 app", ".le 12345 67"), (("write", 3, "apple", 12345, 67),), 2)


class Writing(Checks):
    def test_written(self):
        for safe in range(6):
            device = (DEVICE[0], safe)
            for row in (BEGIN, LONG, END):
                self.same(written(device, row), (DEVICE[0] + sectors_of(row), safe))
                self.same(written(device=device, row=row), (DEVICE[0] + sectors_of(row), safe))
                self.same(log_of(written(device, row)), (BEGIN, WRITE, MARK, row))

    def test_forced(self):
        for safe in range(6):
            self.same(forced((DEVICE[0], safe)), (DEVICE[0], 5))
            self.same(forced(device=(DEVICE[0], safe)), (DEVICE[0], 5))
        self.same(forced(EMPTY), EMPTY)

    def test_devices_that_are_not_clean(self):
        for device in (
            CUT, (DEVICE[0] + (BLANK,), 2), ((BLANK,), 0), (DEVICE[0][:1], 0), (DEVICE[0][:3], 2), (DEVICE[0][:3], 3), (("x" * 12,), 1),
            (DEVICE[0][1:], 0), (DEVICE[0] + ("x" * 12,), 5),
        ):
            self.assertIs(is_device(device), True)
            self.refuses(BadDevice, device, written, device, END)
            self.refuses(BadDevice, device, written, device, None)
            self.refuses(BadDevice, device, forced, device)
            # All else can be asked of them.
            self.assertLess(length_of(device), len(device[0]))
            self.same(mended(device), (device[0][:length_of(device)], length_of(device)))
            self.same(forced(mended(device)), mended(device))
            self.same(log_of(written(mended(device), END)), log_of(device) + (END,))

    def test_wrong_rows(self):
        for thing in values_of_any_kind() + [list(END), END[:2], "end 3 kept", sectors_of(END), (END,)]:
            self.refuses(BadRow, thing, written, DEVICE, thing)
        for row in (BEGIN, WRITE, MARK, END):
            for thing in spoiled(row):
                if not is_log_row(thing):
                    self.refuses(BadRow, thing, written, EMPTY, thing)

    def test_which_error_is_first(self):
        self.refuses(BadDevice, None, written, None, None)
        self.refuses(BadDevice, None, cut, None, None)
        self.refuses(BadDevice, CUT, written, CUT, None)


class Cutting(Checks):
    def test_cut(self):
        self.same(cut(DEVICE, (3,)), (DEVICE[0][:3] + (BLANK,) + DEVICE[0][4:], 2))
        self.same(cut(device=DEVICE, lost=(3, 4)), (DEVICE[0][:3] + (BLANK, BLANK), 2))
        self.same(cut(DEVICE, (2,)), (DEVICE[0][:2] + (BLANK,) + DEVICE[0][3:], 2))
        self.same(cut(DEVICE, (4,)), (DEVICE[0][:4] + (BLANK,), 4))

    def test_nothing_lost(self):
        # What remains after a cut stays, also what was not forced.
        for safe in range(6):
            self.same(cut((DEVICE[0], safe), ()), (DEVICE[0], 5))
        self.same(cut(EMPTY, ()), EMPTY)
        self.same(cut((("x" * 12,), 0), ()), (("x" * 12,), 0))

    def test_safe_is_the_length_of_the_log_whatever_it_was(self):
        odd = (sectors_of(END) + ("x" * 12, SHORT_MARK), 2)
        self.same(cut(odd, ()), (odd[0], 1))
        self.same(cut(odd, (2,)), (odd[0][:2] + (BLANK,), 1))
        self.refuses(BadLost, (1,), cut, odd, (1,))
        self.same(cut(cut(odd, ()), (1,)), (odd[0][:1] + (BLANK, SHORT_MARK), 1))
        # A row of which only the first sector was safe is lost with its second one.
        self.same(cut((DEVICE[0], 3), (3,)), (DEVICE[0][:3] + (BLANK,) + DEVICE[0][4:], 2))

    def test_blank_sectors_may_be_lost_again(self):
        self.same(cut(CUT, (3,)), CUT)
        self.same(cut(CUT, (2, 3, 4)), (DEVICE[0][:2] + (BLANK,) * 3, 2))

    def test_wrong_lost(self):
        for lost in (
            (0,), (1,), (1, 2), (5,), (2, 5), (-1,), (3, 2), (2, 2), (4, 3, 2), (2, 3, 3), [2], [2, 3], 2, None, True, "2", ("2",), (True,),
            (None,), (2, None), ((2,),), ([2],), {2: True}, (2, True), (10 ** 39,), (2, 3, 4, 5), (2.0,),
        ):
            self.refuses(BadLost, lost, cut, DEVICE, lost)
        for lost in ((0,), (False,), (-1,)):
            self.refuses(BadLost, lost, cut, EMPTY, lost)
        unsafe = (DEVICE[0], 0)
        for lost in ((True,), (False,), (0, True), (False, 1)):
            self.refuses(BadLost, lost, cut, unsafe, lost)
        self.same(cut(unsafe, (0, 1))[1], 0)

    def test_every_lost_or_not(self):
        right = all_lost(DEVICE)
        self.assertEqual(len(right), 8)
        for lost in [lost for many in range(4) for lost in combinations(range(-1, 7), many)]:
            if lost in right:
                self.assertIs(is_device(cut(DEVICE, lost)), True)
            else:
                self.refuses(BadLost, lost, cut, DEVICE, lost)

    def test_values_of_any_kind(self):
        for thing in values_of_any_kind():
            if thing != ():
                self.refuses(BadLost, thing, cut, DEVICE, thing)
            pair = (thing, 2)
            self.refuses(BadLost, pair, cut, DEVICE, pair)
        for thing in spoiled((2, 3)):
            if thing not in ((), (2,), (3,), (2, 3)):
                self.refuses(BadLost, thing, cut, DEVICE, thing)

    def test_mended(self):
        self.same(mended(CUT), (DEVICE[0][:2], 2))
        self.same(mended(device=DEVICE), (DEVICE[0], 5))
        self.same([mended(EMPTY), mended(((BLANK, SHORT_MARK), 0)), mended(mended(CUT))], [EMPTY, EMPTY, mended(CUT)])


class EveryDevice(Checks):
    """[6.4]: for every clean device with whole rows within the safe sectors, and for every cut of it."""

    def devices(self):
        rows = (BEGIN, WRITE, MARK, ("undo", 3, "apple", None), END)
        for k in range(len(rows) + 1):
            for many_forced in range(k + 1):
                yield device_with(rows[:k], many_forced)
        for many_forced in range(3):
            yield device_with((("mark", 4, "a"), LONG), many_forced)
            yield device_with((LONG, BEGIN), many_forced)

    def safe_rows(self, device):
        """How many rows have a safe sector."""
        ends, at = [], 0
        for row in log_of(device):
            ends.append(at)
            at += len(sectors_of(row))
        return len([start for start in ends if start < device[1]])

    def test_each_cut(self):
        count = 0
        for device in self.devices():
            rows, many = log_of(device), self.safe_rows(device)
            for lost in all_lost(device):
                after = cut(device, lost)
                left = log_of(after)
                self.assertEqual(left, rows[:len(left)])
                self.assertGreaterEqual(len(left), many)
                self.same(after[1], length_of(after))
                first_lost = min(lost, default=len(device[0]))
                self.assertEqual(len(left), len(log_of((device[0][:first_lost], 0))))
                self.same(log_of(mended(after)), left)
                count += 1
        self.assertGreater(count, 500)

    def test_further_cuts_and_mending(self):
        for device in (DEVICE, device_with((BEGIN, WRITE), 0), device_with((MARK, LONG), 1), device_with((MARK, END, MARK), 0)):
            for lost in all_lost(device):
                after = cut(device, lost)
                left = log_of(after)
                for more in all_lost(after):
                    again = cut(after, more)
                    self.same([log_of(again), again[1]], [left, after[1]])
                    self.same(mended(again), mended(after))
                    self.same(log_of(cut(again, all_lost(again)[-1])), left)
                whole = mended(after)
                self.same([cut(whole, ()), all_lost(whole)], [whole, [()]])

    def test_mending_before_a_cut(self):
        # All that is mended is safe: then nothing can be lost.
        for device in (DEVICE, CUT, EMPTY):
            whole = mended(device)
            self.same(cut(whole, ()), whole)
            for lost in [(at,) for at in range(len(device[0]) + 1)]:
                self.refuses(BadLost, lost, cut, whole, lost)

    def test_a_long_log(self):
        rows = tuple(("write", k, "abcdefghij", -k if k else None, 10 ** 8 + k) for k in range(120))
        device = device_with(rows, 60)
        self.same(log_of(device), rows)
        for at in range(device[1], len(device[0]), 37):
            left = log_of(cut(device, (at,)))
            self.assertEqual(left, rows[:len(left)])
            self.assertLess(60, len(left) + 1)


if __name__ == "__main__":
    unittest.main()
