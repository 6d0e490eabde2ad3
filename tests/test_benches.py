"""Part 14: benches, their texts, wishes, and shortened runs."""

import random
import time
import unittest

from allshelves.benches import Bench, does_show, is_tight, is_wish, read_bench, shortened
from allshelves.errors import BadEvent, BadNumber, BadProtocol, BadText, BadWish, NotShown, NothingToRedo, NothingToUndo
from allshelves.protocols import known, protocol_text
from allshelves.stores import is_store, new_store, worths_at
from allshelves.ways import behind_run, is_run
from draws import HASTY, LOOSE, SLOW, drawn_runs
from helpers import Checks, spoiled, values_of_any_kind

TWO, ONE = known("tworounds"), known("oneround")
RUN = (
    ("open", (0, 1)), ("open", (2, 0, 1)), ("read", 0, 1, "abc"), ("write", 0, 0, "b", None), ("write", 1, 2, "b", -5), ("write", 1, 2, "b", 0), ("flush", 0, 1),
    ("fire", 0, 0, 0), ("hear", 0, 1, 0, "ask"), ("force", 2), ("fall", 2, ()), ("fall", 1, (0, 2)), ("up", 2), ("amid", ("up", 1), 0, ()),
    ("amid", ("fire", 0, 0, 2), 0, ()), ("up", 0),
)
LINES = (
    "open 0,1", "open 2,0,1", "read 0 1 abc", "write 0 0 b -", "write 1 2 b -5", "write 1 2 b 0", "flush 0 1", "fire 0 0 0", "hear 0 1 0 ask", "force 2", "fall 2",
    "fall 1 0,2", "up 2", "amid up 1 0", "amid fire 0 0 2 0", "up 0",
)
HEAD = protocol_text(TWO).split("\n")


def bench_with(run, protocol=TWO, n=3, many=2):
    bench = Bench(protocol, n, many)
    for thing in run:
        bench.do(thing)
    return bench


class Benches(Checks):
    def test_new(self):
        bench = Bench(many=2, n=3, protocol=TWO)
        self.same([bench.protocol(), bench.run(), bench.store()], [TWO, (), new_store(TWO, 3, 2)])
        self.same(bench.text(), "\n".join(HEAD + ["houses 3", "pages 2"]))

    def test_errors(self):
        for thing in (*values_of_any_kind(), Bench(TWO, 2, 1), TWO[0]):
            self.refuses(BadProtocol, thing, Bench, thing, None, None)
        for n in (1, 5, True, None, "2"):
            self.refuses(BadNumber, n, Bench, TWO, n, None)
        for many in (0, 9, True, None, "1"):
            self.refuses(BadNumber, many, Bench, TWO, 2, many)

    def test_do(self):
        bench = Bench(TWO, 3, 2)
        for k, thing in enumerate(RUN):
            self.assertIsNone(bench.do(thing=thing) if k % 2 else bench.do(thing))
            self.same([bench.run(), bench.store()], [RUN[:k + 1], behind_run(new_store(TWO, 3, 2), RUN[:k + 1])])
            self.assertIs(is_store(bench.store()), True)

    def test_things_that_cannot_happen(self):
        bench = bench_with(RUN[:8])
        bench.undo()
        text, store = bench.text(), bench.store()
        for thing in (("up", 0), ("open", (0, 3)), ("fire", 0, 0, 2), ["force", 0], bench, *[thing for thing in values_of_any_kind()]):
            self.refuses(BadEvent, thing, bench.do, thing)
        self.same([bench.text(), bench.store()], [text, store])
        # If a call raises an error, nothing changes: what was removed can still be redone.
        bench.redo()
        self.same(bench.run(), RUN[:8])

    def test_undo_and_redo(self):
        bench = bench_with(RUN)
        stores = [behind_run(new_store(TWO, 3, 2), RUN[:k]) for k in range(len(RUN) + 1)]
        for k in reversed(range(len(RUN))):
            self.assertIsNone(bench.undo())
            self.same([bench.run(), bench.store()], [RUN[:k], stores[k]])
        self.assertEqual(vars(self.refused(NothingToUndo, bench.undo)), {})
        for k in range(len(RUN)):
            self.assertIsNone(bench.redo())
            self.same([bench.run(), bench.store()], [RUN[:k + 1], stores[k + 1]])
        self.assertEqual(vars(self.refused(NothingToRedo, bench.redo)), {})
        self.same(bench.run(), RUN)

    def test_do_discards_what_could_be_redone(self):
        bench = bench_with(RUN[:6])
        for _ in range(3):
            bench.undo()
        bench.redo()
        bench.do(("force", 1))
        self.refused(NothingToRedo, bench.redo)
        self.same(bench.run(), RUN[:4] + (("force", 1),))
        bench.undo()
        # Also the very thing that was removed.
        bench.do(("force", 1))
        self.refused(NothingToRedo, bench.redo)

    def test_copies(self):
        bench = bench_with(RUN[:6])
        bench.undo()
        bench.undo()
        copy = bench.copied()
        self.assertTrue(copy == bench and isinstance(copy, Bench) and copy is not bench)
        copy.redo()
        self.same([copy.run(), bench.run()], [RUN[:5], RUN[:4]])
        copy.do(("force", 0))
        bench.redo()
        bench.redo()
        self.same([copy.run(), bench.run()], [RUN[:5] + (("force", 0),), RUN[:6]])
        self.refused(NothingToRedo, copy.redo)
        bench.undo()
        other = bench.copied().copied()
        bench.do(("force", 1))
        other.redo()
        self.same([other.run(), other.store()], [RUN[:6], behind_run(new_store(TWO, 3, 2), RUN[:6])])
        other.undo()
        other.undo()
        self.same(bench.run(), RUN[:5] + (("force", 1),))

    def test_drawn_calls(self):
        source = random.Random(20)
        things = (("open", (0, 1)), ("force", 0), ("flush", 1, 0), ("write", 0, 0, "a", 1), ("fall", 0, ()), ("up", 0), ("up", 1), ("fire", 0, 0, 0))
        benches = [(Bench(TWO, 2, 1), [], [])]
        for _ in range(400):
            bench, run, undone = source.choice(benches)
            word = source.choice(("do", "do", "undo", "redo", "copied"))
            if word == "do":
                thing = source.choice(things)
                if is_run(bench.store(), (thing,)):
                    bench.do(thing)
                    run.append(thing)
                    undone.clear()
                else:
                    self.refused(BadEvent, bench.do, thing)
            elif word == "undo" and run:
                bench.undo()
                undone.append(run.pop())
            elif word == "redo" and undone:
                bench.redo()
                run.append(undone.pop())
            elif word == "copied" and len(benches) < 8:
                benches.append((bench.copied(), list(run), list(undone)))
            elif word == "undo":
                self.refused(NothingToUndo, bench.undo)
            elif word == "redo":
                self.refused(NothingToRedo, bench.redo)
            for other, wanted, _ in benches:
                self.same(other.run(), tuple(wanted))
            self.same(bench.store(), behind_run(new_store(TWO, 2, 1), tuple(run)))


class Equality(Checks):
    def test_equal(self):
        bench = bench_with(RUN[:5])
        other = bench_with(RUN[:6])
        self.assertFalse(bench == other)
        other.undo()
        # What could be redone does not count.
        self.assertTrue(bench == other and other == bench)
        self.assertFalse(bench != other)
        self.assertTrue(bench == bench)
        self.assertTrue(Bench(TWO, 2, 1) == Bench(TWO, 2, 1))

    def test_not_equal(self):
        for other in (Bench(ONE, 2, 1), Bench(TWO, 3, 1), Bench(TWO, 2, 2), bench_with((("force", 0),), TWO, 2, 1)):
            self.assertFalse(Bench(TWO, 2, 1) == other)
            self.assertTrue(Bench(TWO, 2, 1) != other)

    def test_values_of_other_kinds(self):
        bench = Bench(TWO, 2, 1)
        for thing in (*values_of_any_kind(), bench.text(), bench.store(), bench.run(), bench.protocol(), (bench,)):
            self.assertIs(bench == thing, False)
            self.assertIs(thing == bench, False)


class Texts(Checks):
    def test_each_kind_of_thing(self):
        bench = bench_with(RUN)
        self.same(bench.text().split("\n"), HEAD + ["houses 3", "pages 2"] + list(LINES))
        self.same(read_bench(bench.text()).run(), RUN)
        self.assertTrue(read_bench(text=bench.text()) == bench)
        self.refused(NothingToRedo, read_bench(bench.text()).redo)

    def test_tuples_within_amid(self):
        run = (("open", (0, 1)), ("write", 0, 1, "b", 7), ("amid", ("fire", 0, 1, 1), 2, (6, 7)))
        self.same(bench_with(run, TWO, 2, 1).text()[-44:], "open 0,1\nwrite 0 1 b 7\namid fire 0 1 1 2 6,7")
        self.same(read_bench(bench_with(run, TWO, 2, 1).text()).run(), run)

    def test_all_numbers(self):
        for protocol in (TWO, ONE, LOOSE, HASTY):
            for n in (2, 3, 4):
                for many in range(1, 9):
                    bench = read_bench("\n".join([protocol_text(protocol), f"houses {n}", f"pages {many}"]))
                    self.same([bench.protocol(), bench.run(), bench.store()], [protocol, (), new_store(protocol, n, many)])

    def test_drawn_runs(self):
        for drawn in drawn_runs():
            bench = Bench(drawn.protocol, drawn.n, drawn.many)
            for thing in drawn.run:
                bench.do(thing)
            self.same(bench.store(), drawn.stores[-1])
            again = read_bench(bench.text())
            self.assertTrue(again == bench)
            self.same([again.run(), again.store()], [drawn.run, drawn.stores[-1]])


class ReadBench(Checks):
    def wrong(self, lines, at):
        raised = self.refused(BadText, read_bench, "\n".join(lines))
        self.assertEqual(vars(raised), {"at": at}, lines)

    def setUp(self):
        self.lines = HEAD + ["houses 3", "pages 2"] + list(LINES)
        self.first = len(HEAD) + 2

    def test_no_strings(self):
        for thing in (*[thing for thing in values_of_any_kind() if not isinstance(thing, str)], Bench(TWO, 2, 1), [self.lines], b"leader"):
            self.assertEqual(self.refused(BadText, read_bench, thing).at, 0)

    def test_strings_of_any_kind(self):
        for thing in values_of_any_kind():
            if isinstance(thing, str):
                self.assertEqual(self.refused(BadText, read_bench, thing).at, 1)

    def test_missing_lines(self):
        for size in range(1, len(HEAD) + 2):
            self.wrong(self.lines[:size], size + 1)
        for size in range(len(HEAD) + 2, len(self.lines) + 1):
            self.same(read_bench("\n".join(self.lines[:size])).run(), RUN[:size - self.first])

    def test_each_line_wrong(self):
        for k in range(len(self.lines)):
            for line in ("", " ", "x", self.lines[k] + " ", " " + self.lines[k], self.lines[k].replace(" ", "  ") + ("" if " " in self.lines[k] else "!"), self.lines[k].upper(), self.lines[k] + " 0 0 0 0 0", "houses 3 "):
                self.wrong(self.lines[:k] + [line] + self.lines[k + 1:], k + 1)

    def test_lines_left_out_and_twice(self):
        for k in range(len(HEAD) + 2):
            lines = self.lines[:k] + self.lines[k + 1:]
            try:
                read_bench("\n".join(lines))
            except BadText as error:
                self.assertGreater(error.at, k)
        self.wrong(HEAD + ["pages 2"], len(HEAD) + 1)
        self.wrong(HEAD + ["houses 3", "open 0,1"], len(HEAD) + 2)
        self.wrong(HEAD + ["houses 3", "houses 3", "pages 2"], len(HEAD) + 2)
        self.wrong(HEAD + ["houses 3", "pages 2", "pages 2"], len(HEAD) + 3)
        self.wrong(HEAD + ["houses 3", "pages 2", ""], len(HEAD) + 3)
        # A letter cannot be heard twice, nor can a house come up twice.
        for k in (8, 12):
            at = self.first + k + 1
            self.wrong(self.lines[:at] + [self.lines[at - 1]] + self.lines[at:], at + 1)
        # Without the deal 0, the first line that needs it is wrong.
        self.wrong(HEAD + ["houses 3", "pages 2"] + list(LINES[2:]), self.first + 1)

    def test_protocols(self):
        lines = list(HEAD)
        lines[3] = "on unable force dropped send drop members go 12"
        self.wrong(lines + ["houses 3", "pages 2"], 4)
        self.wrong(HEAD[:-1] + ["houses 3", "pages 2"], len(HEAD))
        self.wrong(HEAD + ["up yes 2", "houses 3"], len(HEAD) + 1)

    def test_forms_of_numbers(self):
        for word in ("1", "5", "0", "-2", "02", "+2", "2.0", "2 ", "two", "", "3,", "\u0663", "10", "22", "- 2", "2_"):
            self.wrong(HEAD + [f"houses {word}", "pages 2"], len(HEAD) + 1)
        for word in ("9", "0", "-1", "01", "+1", "1.0", "", "10", "1 1"):
            self.wrong(HEAD + ["houses 3", f"pages {word}"], len(HEAD) + 2)
        start = HEAD + ["houses 3", "pages 2", "open 0,1"]
        for line in (
            "write 0 0 a 01", "write 0 0 a +1", "write 0 0 a -0", "write 0 0 a --1", "write 0 0 a None", "write 0 0 a 1_0", "write 0 0 a", "write 0 0 a ", "write 00 0 a 1",
            "write 0 -0 a 1", "write 0 0 a 1.0", "write 0 0 A 1", "write 0 0  1", "write 0  0 a 1", "write 0 0 a 1 ", "write 0,0 0 a 1", "write - 0 a 1", "write 0 0 - 1",
            "write 0 0 a \u0663", "write 0 0 a 1,2", "read 0 0", "read 0 0 -", "read 0 0 a a", "open", "open ", "open 0", "open 0 1", "open 0,1,", "open ,0,1", "open 0, 1", "open 0,01",
            "open 1,1", "open 0,3", "open 0,1 2", "fall", "fall 0 ", "fall 0 -", "fall 0 0,", "fall 0 1,0", "fall 0 0,0", "fall 0 9", "fall 3", "fall 0 00", "up", "up 0", "force", "force 3",
            "force 00", "flush 0", "flush 0 2", "flush 0 0 0", "fire 0 0", "fire 0 0 2", "hear 0 1 0 ask", "amid", "amid up 0 0", "amid fire 0 0 1", "amid fire 0 0 1 2", "amid fire 0 0 1 0 0",
            "amid fire 0 0 1 0 ", "amid amid fire 0 0 1 0 0", "amid force 0 0", "amid fire 0 0 0 1", "amid (fire 0 0 1) 0", "told 0 0 kept", "fire 0 0 0 0", "(fire 0 0 0)", "None", "-", "0",
            "1 0 0", "open\t0,1", "open 0,1\r", "fire 0 0 " + "0" * 100, "write 0 0 abcdefghijk 1", "fire fire 0 0", "up up", "open open", "fall fire",
        ):
            self.wrong(start + [line], len(start) + 1)
            self.wrong(start + [line, "force 0"], len(start) + 1)
            self.wrong(start + ["force 0", line, "x"], len(start) + 2)
        for line in ("write 0 0 a -1", "write 0 0 a -", "write 0 0 a 0", "write 0 0 a " + "9" * 40, "fall 0", "fall 0 0", "fall 0 0,1", "amid fire 0 0 1 1", "amid fire 0 0 1 1 4,5"):
            self.assertEqual(len(read_bench("\n".join(start + [line])).run()), 2)


def wish_valid(thing):
    def is_number(item):
        return type(item) is int and item >= 0
    if type(thing) is not tuple or not thing or type(thing[0]) is not str:
        return False
    if thing[0] in ("parted", "waits"):
        return len(thing) == 2 and is_number(thing[1])
    if thing[0] in ("told", "all"):
        return len(thing) == 3 and is_number(thing[1]) and type(thing[2]) is str and thing[2] in ("kept", "dropped")
    if thing[0] != "worth" or len(thing) != 4 or not is_number(thing[1]) or (thing[3] is not None and type(thing[3]) is not int):
        return False
    return type(thing[2]) is str and 1 <= len(thing[2]) <= 10 and all("a" <= letter <= "z" for letter in thing[2])


WISHES = (("parted", 0), ("told", 3, "kept"), ("told", 0, "dropped"), ("all", 1, "dropped"), ("all", 0, "kept"), ("waits", 10 ** 39), ("worth", 0, "a", None), ("worth", 9, "abcdefghij", -5))


class Wishes(Checks):
    def test_wishes(self):
        for wish in WISHES:
            self.assertIs(is_wish(wish), True)
            self.assertIs(is_wish(thing=wish), True)
            for thing in spoiled(wish):
                self.assertIs(is_wish(thing), wish_valid(thing), thing)
        for thing in (*values_of_any_kind(), ("parted", -1), ("parted", True), ("told", 0, "keep"), ("told", 0, ""), ("told", 0, True), ("worth", 0, "A", 1), ("worth", 0, "a", True),
                      ("worth", True, "a", 1), ["parted", 0], ("parted",), ("told", 0), ("worth", 0, "a"), ("wait", 0), (["parted"], 0), ("told", 0, ["kept"])):
            self.assertIs(is_wish(thing), False, thing)

    def shown(self, run, *wishes, protocol=ONE, n=2):
        for wish in wishes:
            self.assertIs(does_show(protocol, n, 1, run, wish), True, wish)

    def not_shown(self, run, *wishes, protocol=ONE, n=2):
        for wish in wishes:
            self.assertIs(does_show(protocol, n, 1, run, wish), False, wish)
            self.refused_wish(run, wish, protocol, n)

    def refused_wish(self, run, wish, protocol, n):
        for call in (shortened, is_tight):
            raised = self.refused(NotShown, call, protocol, n, 1, run, wish)
            self.assertEqual(list(vars(raised)), ["wish"])
            self.assertIs(raised.wish, wish)

    def test_ends(self):
        run = (("open", (1, 0)), ("fire", 0, 1, 0))
        self.shown(run, ("told", 0, "kept"))
        self.not_shown(run, ("told", 0, "dropped"), ("all", 0, "kept"), ("all", 0, "dropped"), ("parted", 0), ("told", 1, "kept"), ("all", 1, "kept"), ("parted", 1))
        self.shown(run + (("fire", 0, 0, 2),), ("told", 0, "kept"), ("told", 0, "dropped"), ("parted", 0))
        self.not_shown(run + (("fire", 0, 0, 2),), ("all", 0, "kept"), ("all", 0, "dropped"))
        both = run + (("hear", 0, 0, 1, "keep"), ("fire", 0, 0, 0))
        self.shown(both, ("all", 0, "kept"), ("told", 0, "kept"))
        self.not_shown(both, ("parted", 0), ("all", 0, "dropped"))
        self.shown((("open", (0, 1)),), ("told", 0, "kept"), protocol=HASTY)
        self.not_shown((("open", (0, 1)),), ("all", 0, "kept"), ("parted", 0), protocol=HASTY)
        self.shown((("open", (0, 1)), ("fire", 0, 1, 0)), ("all", 0, "kept"), protocol=HASTY)
        # Both ends at the same house.
        twice = (("open", (0, 1)), ("fire", 0, 0, 1), ("fire", 0, 0, 0), ("fire", 0, 0, 2))
        self.shown(twice, ("parted", 0), ("told", 0, "kept"), ("told", 0, "dropped"), protocol=SLOW)
        self.not_shown(twice, ("all", 0, "kept"), ("all", 0, "dropped"), protocol=SLOW)

    def test_waits(self):
        run = (("open", (0, 1)), ("open", (1, 0)), ("write", 0, 1, "a", 1), ("read", 1, 1, "a"))
        self.shown(run, ("waits", 1))
        self.not_shown(run, ("waits", 0), ("waits", 2))
        self.not_shown(run[:3], ("waits", 1))
        self.not_shown(run + (("fire", 0, 1, 2),), ("waits", 1))
        self.not_shown(run + (("fall", 1, ()),), ("waits", 1))

    def test_worths(self):
        run = (("open", (0, 1)), ("write", 0, 1, "a", -3))
        self.shown(run, ("worth", 1, "a", -3), ("worth", 0, "a", None), ("worth", 1, "b", None))
        self.not_shown(run, ("worth", 1, "a", 3), ("worth", 1, "a", None), ("worth", 0, "a", -3), ("worth", 2, "a", None), ("worth", 2, "a", -3), ("worth", 0, "a", 0))
        self.shown(run + (("write", 0, 1, "a", 0),), ("worth", 1, "a", 0))
        # Of a house that is down, as after its coming up.
        kept = run + (("fire", 0, 0, 0), ("hear", 0, 1, 0, "keep"), ("fire", 0, 1, 0), ("fall", 1, ()))
        self.shown(kept, ("worth", 1, "a", -3))
        down = run + (("force", 1), ("fall", 1, ()))
        self.shown(down, ("worth", 1, "a", -3))
        self.shown(down, ("worth", 1, "a", None), protocol=TWO)
        for protocol in (ONE, TWO):
            store = behind_run(new_store(protocol, 2, 1), down)
            self.assertIs(does_show(protocol, 2, 1, down, ("worth", 1, "a", dict(worths_at(store, 1)).get("a"))), True)

    def test_errors(self):
        run = (("open", (0, 1)), ("fire", 0, 0, 0))
        wish = ("told", 0, "kept")
        self.assertIs(does_show(wish=wish, run=run, many=1, n=2, protocol=ONE), True)
        self.assertIs(is_tight(wish=wish, run=run, many=1, n=2, protocol=ONE), True)
        self.same(shortened(wish=wish, run=run, many=1, n=2, protocol=ONE), run)
        for call in (does_show, shortened, is_tight):
            self.refuses(BadProtocol, 0, call, 0, 0, 0, 0, 0)
            self.refuses(BadNumber, True, call, ONE, True, 0, 0, 0)
            self.refuses(BadNumber, 9, call, ONE, 2, 9, 0, 0)
            for other in ([], list(run), None, 0, "", {}):
                self.refuses(BadEvent, other, call, ONE, 2, 1, other, None)
            self.refuses(BadEvent, run[1], call, ONE, 2, 1, run[1:], None)
            for thing in (*values_of_any_kind(), ("told", 0, "keep"), list(wish), ("parted", True)):
                self.refuses(BadWish, thing, call, ONE, 2, 1, run, thing)
        self.refused_wish(run, ("parted", 0), ONE, 2)


def plain_shows(protocol, n, many, run, wish):
    return is_run(new_store(protocol, n, many), run) and does_show(protocol, n, many, run, wish)


def plain_tight(protocol, n, many, run, wish):
    return not any(plain_shows(protocol, n, many, run[:k] + run[k + 1:], wish) for k in range(len(run)))


class Shortened(Checks):
    def check(self, protocol, n, many, run, wish):
        found = shortened(protocol, n, many, run, wish)
        self.assertIs(does_show(protocol, n, many, found, wish), True)
        self.assertIs(is_tight(protocol, n, many, found, wish), True)
        self.assertTrue(plain_tight(protocol, n, many, found, wish))
        # What is left stands in the run, in order.
        rest = iter(run)
        self.assertTrue(all(thing in rest for thing in found))
        self.assertIs(is_tight(protocol, n, many, run, wish), plain_tight(protocol, n, many, run, wish))
        return found

    def test_runs_that_are_tight(self):
        run = (("open", (0, 1)), ("fire", 0, 0, 0), ("fire", 0, 1, 2))
        self.same(self.check(ONE, 2, 1, run, ("parted", 0)), run)
        self.same(self.check(ONE, 2, 1, (), ("worth", 0, "a", None)), ())

    def test_runs_that_are_not(self):
        run = (("force", 1), ("open", (0, 1)), ("flush", 0, 0), ("fire", 0, 0, 0), ("open", (1, 0)), ("fire", 0, 1, 2), ("write", 1, 0, "a", 1))
        self.assertIs(is_tight(ONE, 2, 1, run, ("parted", 0)), False)
        self.same(self.check(ONE, 2, 1, run, ("parted", 0)), (run[1], run[3], run[5]))
        # Without the first deal, the second one is the deal 0.
        self.same(self.check(ONE, 2, 1, (("open", (0, 1)), ("open", (1, 0)), ("fire", 0, 0, 0)), ("told", 0, "kept")), (("open", (0, 1)), ("fire", 0, 0, 0)))

    def test_only_one_at_a_time(self):
        # Nothing but both together could be left out: so it is tight, though not shortest.
        run = (("open", (0, 1)), ("fall", 1, ()), ("up", 1))
        self.assertIs(is_tight(ONE, 2, 1, run, ("worth", 1, "a", None)), plain_tight(ONE, 2, 1, run, ("worth", 1, "a", None)))
        run = (("open", (0, 1)), ("open", (1, 0)), ("write", 0, 1, "a", 1), ("read", 1, 1, "a"))
        self.same(self.check(TWO, 2, 1, run, ("waits", 1)), run)

    def test_drawn_runs(self):
        kinds = []
        for drawn in drawn_runs():
            run, store = drawn.run[:12], drawn.stores[12]
            wishes = [(word, deal, end) for word in ("told", "all") for deal in range(len(store[2])) for end in ("kept", "dropped")]
            wishes += [(word, deal) for word in ("parted", "waits") for deal in range(len(store[2]))] + [("worth", 0, "a", None)]
            wishes += [("worth", house, key, worth) for house in range(drawn.n) for key, worth in worths_at(store, house)]
            for wish in wishes:
                if does_show(drawn.protocol, drawn.n, drawn.many, run, wish):
                    found = self.check(drawn.protocol, drawn.n, drawn.many, run, wish)
                    kinds.append((wish[0], len(found)))
                else:
                    self.refuses_not_shown(drawn, run, wish)
        for word in ("told", "all", "waits", "worth"):
            self.assertGreater(len([kind for kind in kinds if kind[0] == word]), 5, word)

    def refuses_not_shown(self, drawn, run, wish):
        self.assertIs(self.refused(NotShown, shortened, drawn.protocol, drawn.n, drawn.many, run, wish).wish, wish)

    def test_time(self):
        run = (
            ("open", (0, 1, 2, 3)), ("write", 0, 0, "a", 1), ("write", 0, 1, "b", 1), ("write", 0, 2, "c", 1), ("fire", 0, 0, 0), ("hear", 0, 1, 0, "ask"), ("fire", 0, 1, 0),
            ("fire", 0, 1, 0), ("fall", 1, ()), ("up", 1), ("force", 2), ("fire", 0, 0, 2),
        )
        for wish in (("told", 0, "dropped"), ("worth", 1, "b", 1), ("worth", 3, "z", None)):
            start = time.perf_counter()
            shortened(TWO, 4, 8, run, wish)
            is_tight(TWO, 4, 8, run, wish)
            self.assertLess(time.perf_counter() - start, 1)


if __name__ == "__main__":
    unittest.main()
