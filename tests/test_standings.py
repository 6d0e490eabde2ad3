"""[2.1]: standings and their form."""

import unittest

from allshelves.errors import BadNumber, BadProtocol, BadStanding
from allshelves.protocols import known, read_protocol
from allshelves.standings import behind, first_standing, is_row, is_standing, standing_behind, steps_from
from helpers import NO_NUMBERS, Checks, reached, replaced, spoiled, values_of_any_kind

TWO = known("tworounds")
ONE = known("oneround")

# The kind "c" stands only in a cause, "a" only in a letter, "b" in both.
SMALL = read_protocol("""leader
state dropped
on some c write m send a members go 1
on timer write k go 1
state
up 0
up k 1
up m 1
member
state kept
on each b force m send b others go 0
up 0
up m 0""")

SEAT = (1, ((1, "a"), (1, "c"), (2, "b")), ("m", "k"), 1, True, 0, True, ("dropped",))
DOWN = (-1, (), ("m",), 1, False, 1, False, ("dropped", "kept"))
PLAIN = (0, (), (), 0, False, -1, False, ())
STANDING = ((SEAT, DOWN, PLAIN), ((0, 1, "a"), (1, 0, "b"), (1, 2, "a"), (2, 0, "c")))


class First(Checks):
    def test_ends_of_the_first_states(self):
        plain = (0, (), (), 0, True, -1, True)
        leader, member = plain + (("dropped",),), plain + (("kept",),)
        for n in (1, 2, 3, 4):
            self.same(first_standing(SMALL, n), ((leader,) + (member,) * (n - 1), ()))
            self.same(first_standing(TWO, n), ((plain + ((),),) * n, ()))

    def test_by_name(self):
        self.same(first_standing(protocol=TWO, n=2), first_standing(TWO, 2))

    def test_errors(self):
        for thing in values_of_any_kind():
            self.refuses(BadProtocol, thing, first_standing, thing, 2)
        for n in NO_NUMBERS:
            self.refuses(BadNumber, n, first_standing, TWO, n)
        self.refuses(BadProtocol, None, first_standing, None, 0)


class Form(Checks):
    def yes(self, thing, protocol=SMALL, n=3):
        self.assertIs(is_standing(protocol, n, thing), True, thing)
        self.assertIsInstance(steps_from(protocol, n, thing), tuple)

    def no(self, thing, protocol=SMALL, n=3):
        self.assertIs(is_standing(protocol, n, thing), False, thing)
        self.refuses(BadStanding, thing, steps_from, protocol, n, thing)
        self.refuses(BadStanding, thing, behind, protocol, n, thing, None)

    def seat(self, k, part, h=0):
        """The standing with another part of the tuple of a house."""
        return replaced(STANDING, (0, h, k), part)

    def test_right_ones(self):
        self.yes(STANDING)
        self.yes(((PLAIN,) * 3, ()))
        for n in (1, 4):
            self.yes(((PLAIN,) * n, ()), n=n)

    def test_values_of_any_kind(self):
        for thing in values_of_any_kind():
            self.no(thing)
            self.no(((SEAT, DOWN, thing), ()))
            self.no((thing, STANDING[1]))
            if thing != ():
                self.no((STANDING[0], thing))

    def test_spoiled_standings(self):
        right = 0
        for thing in spoiled(STANDING):
            if is_standing(SMALL, 3, thing):
                right += 1
                self.yes(thing)
                for step in steps_from(SMALL, 3, thing):
                    self.yes(behind(SMALL, 3, thing, step))
            else:
                self.no(thing)
        self.assertGreater(right, 20)

    def test_number_of_houses(self):
        for n in (1, 2, 4):
            self.no(((PLAIN,) * 3, ()), n=n)
        self.no(([PLAIN] * 3, ()))
        self.no([(PLAIN,) * 3, ()])
        self.no(((PLAIN,) * 3, (), ()))
        self.no(((PLAIN,) * 3,))

    def test_length_of_a_seat(self):
        self.no(replaced(STANDING, (0, 2), PLAIN[:7]))
        self.no(replaced(STANDING, (0, 2), PLAIN + ((),)))
        self.no(replaced(STANDING, (0, 2), list(PLAIN)))

    def test_states(self):
        self.yes(self.seat(0, 0))
        for state in (2, -2, True, False, None, "0", (0,)):
            self.no(self.seat(0, state))
        # The members have one state only.
        self.no(self.seat(0, 1, h=2))

    def test_heard(self):
        for heard in ((), ((2, "a"), (2, "b"), (2, "c"))):
            self.yes(self.seat(1, heard))
        wrong = (
            ((0, "a"),), ((3, "a"),), ((-1, "a"),), ((True, "a"),), ((1, "m"),), ((1, ""),), ((1, None),), ((1, ["a"]),),
            ((2, "a"), (1, "a")), ((1, "a"), (1, "a")), [(1, "a")], ([1, "a"],), (("a", 1),), ((1,),), ((1, 0, "a"),), None,
        )
        for heard in wrong:
            self.no(self.seat(1, heard))
        self.yes(self.seat(1, ((0, "a"), (1, "c")), h=2))
        self.no(self.seat(1, ((2, "a"),), h=2))

    def test_logs(self):
        for log in (("m",), ("k",), ("k", "m"), ("m", "k")):
            self.yes(self.seat(2, log))
        for log in ((), ("m", "m"), ("m", "x"), ("",), ["m", "k"], "mk", "m", (("m",),), (["m"],), (None,), (1,), None):
            self.no(self.seat(2, log))
        self.no(self.seat(2, ("k",), h=2))
        self.yes(self.seat(2, ("m",), h=2))

    def test_forced(self):
        for forced in (0, 1, 2):
            self.yes(self.seat(3, forced))
        for forced in (3, -1, True, False, None, "1"):
            self.no(self.seat(3, forced))

    def test_bools(self):
        for k in (4, 6):
            for worth in (True, False):
                self.yes(self.seat(k, worth))
            for worth in (0, 1, None, "True", (True,)):
                self.no(self.seat(k, worth))

    def test_said(self):
        for said in (-1, 0, 1, 2):
            self.yes(self.seat(5, said))
        for said in (3, -2, True, False, None, "0"):
            self.no(self.seat(5, said))
        self.yes(self.seat(5, 1, h=2))
        self.no(self.seat(5, 2, h=2))

    def test_told(self):
        for told in ((), ("dropped",), ("kept",), ("dropped", "kept")):
            self.yes(self.seat(7, told))
            self.yes(self.seat(7, told, h=1))
        for told in (("kept", "dropped"), ("kept", "kept"), ("",), "kept", ["kept"], ("lost",), (None,), ("dropped", "kept", "kept")):
            self.no(self.seat(7, told))

    def test_down(self):
        self.no(self.seat(1, ((0, "a"),), h=1))
        self.no(self.seat(4, True, h=1))
        self.no(self.seat(3, 0, h=1))
        self.no(self.seat(2, (), h=1))
        self.yes(self.seat(6, True, h=1))
        self.yes(self.seat(5, -1, h=1))
        for k, part in ((0, 0), (4, True), (1, ())):
            self.yes(replaced(self.seat(0, 0, h=1), (0, 1, k), part))

    def test_sent(self):
        for sent in ((), ((0, 2, "a"), (1, 2, "c"), (2, 0, "b"), (2, 1, "a"), (2, 1, "b"))):
            self.yes((STANDING[0], sent))
        wrong = (
            ((1, 1, "a"),), ((3, 0, "a"),), ((0, 3, "a"),), ((-1, 0, "a"),), ((0, -1, "a"),), ((0, 1, "m"),), ((0, True, "a"),),
            ((False, 1, "a"),), ((0, 1, ""),), ((0, 1, None),), ((0, 1),), ((0, 1, "a", "a"),), ((1, 0, "a"), (0, 1, "a")),
            ((0, 1, "a"), (0, 1, "a")), [(0, 1, "a")], ([0, 1, "a"],), (("a", 0, 1),), ((0, 1, {}),),
        )
        for sent in wrong:
            self.no((STANDING[0], sent))

    def test_nothing_else_is_checked(self):
        # Heard but not sent, forced but never written by a rule, told without a state.
        self.yes(((SEAT, PLAIN, PLAIN), ()))
        self.yes(((PLAIN[:5] + (1, True, ("kept",)), PLAIN, PLAIN), ((0, 2, "c"),)))

    def test_reached_ones(self):
        for standing in reached(lambda s: steps_from(ONE, 2, s), lambda s, t: behind(ONE, 2, s, t), first_standing(ONE, 2)):
            self.yes(standing, ONE, 2)
            self.no(standing, ONE, 3)

    def test_errors(self):
        for thing in values_of_any_kind():
            self.refuses(BadProtocol, thing, is_standing, thing, 3, STANDING)
        for n in NO_NUMBERS:
            self.refuses(BadNumber, n, is_standing, SMALL, n, STANDING)
        self.refuses(BadProtocol, None, is_standing, None, 0, None)
        self.refuses(BadNumber, 0, is_standing, SMALL, 0, None)

    def test_by_name(self):
        self.same(is_standing(protocol=SMALL, n=3, thing=STANDING), True)


class Order(Checks):
    """Which error is raised if several apply, and what it carries."""

    def test_steps_from(self):
        self.refuses(BadProtocol, None, steps_from, None, 0, None)
        self.refuses(BadNumber, 0, steps_from, SMALL, 0, None)
        self.refuses(BadStanding, None, steps_from, SMALL, 3, None)
        for n in NO_NUMBERS:
            self.refuses(BadNumber, n, steps_from, SMALL, n, STANDING)

    def test_behind(self):
        self.refuses(BadProtocol, None, behind, None, 0, None, None)
        self.refuses(BadNumber, 0, behind, SMALL, 0, None, None)
        self.refuses(BadStanding, None, behind, SMALL, 3, None, None)
        for n in NO_NUMBERS:
            self.refuses(BadNumber, n, behind, SMALL, n, STANDING, ("up", 1))

    def test_rows(self):
        for call in (is_row, standing_behind):
            self.refuses(BadProtocol, None, call, None, 0, None)
            self.refuses(BadNumber, 0, call, SMALL, 0, None)
            for n in NO_NUMBERS:
                self.refuses(BadNumber, n, call, SMALL, n, ())
            for thing in values_of_any_kind():
                self.refuses(BadProtocol, thing, call, thing, 3, ())


if __name__ == "__main__":
    unittest.main()
