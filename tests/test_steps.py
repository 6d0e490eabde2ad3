"""[1.2], [2.2]: what can be done, and what is behind a step."""

import unittest

from allshelves.errors import BadStep
from allshelves.protocols import known, read_protocol
from allshelves.standings import behind, first_standing, is_standing, steps_from
from helpers import Checks, spoiled, values_of_any_kind

TWO = known("tworounds")

RULES = read_protocol("""leader
state
on able write a go 1
on unable write b send x members go 0
on timer force c send x others send y members go 0
on each x go 2
on some x force a go 2
state kept
on able go 0
state dropped
on able force d go 1
up 2
up a 0
up b 0
up c 1
up d 2
member
state
on timer send x leader send y members send z others send z others go 0
on each z write m go 0
on some z force m go 1
state dropped
on able write m go 0
up 1
up m 0""")


def seat(state=0, heard=(), log=(), forced=0, able=True, said=-1, whole=True, told=()):
    return (state, heard, log, forced, able, said, whole, told)


PLAIN = seat()


def first_of(steps, h):
    return tuple(step for step in steps if step[1] == h)


class Steps(Checks):
    def steps(self, h, own, n=2, sent=(), protocol=RULES):
        """The steps that a house can do, all others being as at first."""
        standing = ((PLAIN,) * h + (own,) + (PLAIN,) * (n - 1 - h), sent)
        return first_of(steps_from(protocol, n, standing), h)

    def after(self, h, own, step, n=2, sent=(), protocol=RULES):
        """The tuple of a house after its step, and the letters; all else stays as it is."""
        standing = ((PLAIN,) * h + (own,) + (PLAIN,) * (n - 1 - h), sent)
        seats, letters = behind(protocol, n, standing, step)
        self.assertTrue(is_standing(protocol, n, (seats, letters)))
        self.same(seats[:h] + seats[h + 1:], (PLAIN,) * (n - 1))
        return seats[h], letters


class CanBeDone(Steps):
    def test_causes(self):
        plain = (("fall", 0, 0), ("rule", 0, 0), ("rule", 0, 1), ("rule", 0, 2))
        self.same(self.steps(0, PLAIN), plain)
        self.same(self.steps(0, seat(able=False)), (plain[0],) + plain[2:])
        self.same(self.steps(0, seat(heard=((1, "x"),))), plain + (("rule", 0, 3), ("rule", 0, 4)))
        self.same(self.steps(0, seat(heard=((1, "y"),))), plain)

    def test_each_and_some_with_one_house(self):
        self.same(steps_from(RULES, 1, ((PLAIN,), ()))[-1], ("rule", 0, 3))
        self.assertNotIn(("rule", 0, 4), steps_from(RULES, 1, ((PLAIN,), ())))

    def test_each_and_some_with_four_houses(self):
        all_others = ((0, "z"), (1, "z"), (3, "z"))
        for chosen in range(8):
            heard = tuple(pair for k, pair in enumerate(all_others) if chosen >> k & 1)
            steps = self.steps(2, seat(heard=heard), n=4)
            self.assertEqual(("rule", 2, 1) in steps, chosen == 7)
            self.assertEqual(("rule", 2, 2) in steps, chosen > 0)

    def test_kinds_that_are_called_like_causes(self):
        odd = read_protocol("\n".join(
            ["leader", "state"] + [f"on {cause} go 0" for cause in ("some able", "each some", "some each", "each timer", "some unable")]
            + ["up 0", "member", "state", "up 0"]
        ))
        self.same(self.steps(0, PLAIN, protocol=odd), (("fall", 0, 0),))
        kinds = ("able", "some", "each", "timer", "unable")
        for r, kind in enumerate(kinds):
            own = seat(heard=((1, kind),), able=False)
            self.same(self.steps(0, own, protocol=odd), (("fall", 0, 0), ("rule", 0, r)))

    def test_rules_of_the_state(self):
        self.same(self.steps(0, seat(state=1)), (("fall", 0, 0), ("rule", 0, 0)))
        self.same(self.steps(1, seat(state=1, able=False)), (("fall", 1, 0),))

    def test_falls_and_forces(self):
        log = ("a", "b", "c")
        for forced in range(4):
            steps = self.steps(0, seat(state=1, log=log, forced=forced, able=False))
            falls = tuple(("fall", 0, left) for left in range(forced, 4))
            self.same(steps, falls + ((("force", 0),) if forced < 3 else ()))

    def test_down(self):
        down = seat(state=-1, log=("a", "b"), forced=2, able=False)
        self.same(self.steps(0, down, sent=((1, 0, "x"),)), (("up", 0),))

    def test_letters(self):
        sent = ((0, 1, "x"), (1, 0, "x"), (1, 0, "y"), (2, 0, "z"), (2, 1, "x"))
        steps = self.steps(0, seat(state=2, able=False), n=3, sent=sent)
        self.same(steps, (("fall", 0, 0), ("hear", 0, 1, "x"), ("hear", 0, 1, "y"), ("hear", 0, 2, "z")))
        steps = self.steps(0, seat(state=2, able=False, heard=((1, "y"),)), n=3, sent=sent)
        self.same(steps, (("fall", 0, 0), ("hear", 0, 1, "x"), ("hear", 0, 2, "z")))

    def test_ascending(self):
        own = seat(log=("a", "b"), heard=((1, "x"),))
        standing = ((own, PLAIN, PLAIN), ((0, 1, "y"), (0, 2, "x"), (1, 2, "y"), (2, 0, "z"), (2, 1, "x")))
        self.same(steps_from(protocol=RULES, n=3, standing=standing), (
            ("fall", 0, 0), ("fall", 0, 1), ("fall", 0, 2), ("fall", 1, 0), ("fall", 2, 0), ("force", 0),
            ("hear", 0, 2, "z"), ("hear", 1, 0, "y"), ("hear", 1, 2, "x"), ("hear", 2, 0, "x"), ("hear", 2, 1, "y"),
            ("rule", 0, 0), ("rule", 0, 1), ("rule", 0, 2), ("rule", 0, 4), ("rule", 1, 0), ("rule", 2, 0),
        ))


class AfterRules(Steps):
    def test_able_and_said(self):
        own, sent = self.after(0, PLAIN, ("rule", 0, 0))
        self.same((own, sent), (seat(state=1, log=("a",), said=0, told=("kept",)), ()))
        own, _ = self.after(0, seat(log=("b", "c")), ("rule", 0, 0))
        self.same(own, seat(state=1, log=("b", "c", "a"), said=2, told=("kept",)))

    def test_said_without_a_mark_and_only_once(self):
        own, _ = self.after(0, seat(state=1, log=("b",)), ("rule", 0, 0))
        self.same(own, seat(log=("b",), said=1))
        own, _ = self.after(0, seat(state=2, log=("b",), said=0), ("rule", 0, 0))
        self.same(own, seat(state=1, log=("b", "d"), forced=2, said=0, told=("kept",)))

    def test_other_causes_say_nothing(self):
        for step in (("rule", 0, 1), ("rule", 0, 2), ("rule", 0, 3)):
            self.same(self.after(0, seat(heard=((1, "x"),)), step)[0][5], -1)

    def test_marks_are_written_once(self):
        own, _ = self.after(0, seat(log=("a", "c"), forced=1), ("rule", 0, 0))
        self.same(own, seat(state=1, log=("a", "c"), forced=1, said=2, told=("kept",)))

    def test_forcing_the_whole_log(self):
        own, _ = self.after(0, seat(log=("b", "a")), ("rule", 0, 2))
        self.same(own, seat(log=("b", "a", "c"), forced=3))
        # The log is forced, too, where the mark is there already.
        own, _ = self.after(0, seat(log=("c", "b"), forced=1), ("rule", 0, 2))
        self.same(own, seat(log=("c", "b"), forced=2))

    def test_not_forcing(self):
        own, _ = self.after(0, seat(log=("a", "c"), forced=1), ("rule", 0, 1))
        self.same(own, seat(log=("a", "c", "b"), forced=1))

    def test_heard_stays(self):
        own, _ = self.after(0, seat(heard=((1, "x"), (1, "y"))), ("rule", 0, 4))
        self.same(own, seat(state=2, heard=((1, "x"), (1, "y")), log=("a",), forced=1, told=("dropped",)))

    def test_told_is_ascending_and_stays(self):
        own, _ = self.after(0, seat(heard=((1, "x"),), told=("kept",)), ("rule", 0, 3))
        self.same(own[7], ("dropped", "kept"))
        own, _ = self.after(0, seat(state=2, told=("dropped", "kept")), ("rule", 0, 0))
        self.same(own[7], ("dropped", "kept"))
        own, _ = self.after(0, seat(state=1, told=("kept",)), ("rule", 0, 0))
        self.same(own[7], ("kept",))

    def test_letters_of_the_leader(self):
        self.same(self.after(0, PLAIN, ("rule", 0, 1), n=1)[1], ())
        self.same(self.after(0, PLAIN, ("rule", 0, 1), n=3)[1], ((0, 1, "x"), (0, 2, "x")))
        self.same(self.after(0, PLAIN, ("rule", 0, 2), n=3)[1], ((0, 1, "x"), (0, 1, "y"), (0, 2, "x"), (0, 2, "y")))

    def test_letters_of_a_member(self):
        self.same(self.after(1, PLAIN, ("rule", 1, 0), n=2)[1], ((1, 0, "x"), (1, 0, "z")))
        wanted = (
            (2, 0, "x"), (2, 0, "z"), (2, 1, "y"), (2, 1, "z"), (2, 3, "y"), (2, 3, "z"),
        )
        self.same(self.after(2, PLAIN, ("rule", 2, 0), n=4)[1], wanted)

    def test_letters_are_sent_once_and_kept_in_order(self):
        sent = ((0, 2, "x"), (1, 0, "y"))
        self.same(self.after(0, PLAIN, ("rule", 0, 1), n=3, sent=sent)[1], ((0, 1, "x"), (0, 2, "x"), (1, 0, "y")))


class AfterOtherSteps(Steps):
    def test_hearing(self):
        sent = ((1, 0, "x"), (1, 0, "y"), (2, 0, "x"))
        own = seat(heard=((1, "y"),), log=("a",), said=0)
        for sender, kind, heard in ((1, "x", ((1, "x"), (1, "y"))), (2, "x", ((1, "y"), (2, "x")))):
            result = self.after(0, own, ("hear", 0, sender, kind), n=3, sent=sent)
            self.same(result, (seat(heard=heard, log=("a",), said=0), sent))

    def test_force(self):
        own = seat(log=("a", "b"), forced=1, heard=((1, "x"),))
        self.same(self.after(0, own, ("force", 0)), (seat(log=("a", "b"), forced=2, heard=((1, "x"),)), ()))

    def test_each_number_of_rows_that_a_fall_can_leave(self):
        own = seat(log=("b", "a", "c"), forced=1, said=1, heard=((1, "x"),), told=("kept",))
        for left, whole in ((1, False), (2, True), (3, True)):
            wanted = seat(state=-1, log=("b", "a", "c")[:left], forced=left, able=False, said=1, whole=whole, told=("kept",))
            self.same(self.after(0, own, ("fall", 0, left)), (wanted, ()))

    def test_whole(self):
        for said in (-1, 0, 1, 2, 3):
            for left in (0, 1, 2, 3):
                own = seat(log=("b", "a", "c"), said=said)
                after = self.after(0, own, ("fall", 0, left))[0]
                self.same(after[6], said != -1 and left > said)
        own = seat(log=("b",), said=0, whole=False)
        self.same(self.after(0, own, ("fall", 0, 1))[0][6], False)

    def test_up_by_the_last_mark(self):
        for log, state, told in (((), 2, ("dropped",)), (("a",), 0, ()), (("a", "c"), 1, ("kept",)), (("c", "d"), 2, ("dropped",)), (("d", "c", "b"), 0, ())):
            down = seat(state=-1, log=log, forced=len(log), able=False, said=1, whole=False)
            up = seat(state=state, log=log, forced=len(log), able=False, said=1, whole=False, told=told)
            self.same(self.after(0, down, ("up", 0)), (up, ()))

    def test_up_at_a_member(self):
        down = seat(state=-1, able=False, told=("kept",))
        self.same(self.after(1, down, ("up", 1))[0], seat(state=1, able=False, told=("dropped", "kept")))

    def test_a_letter_is_heard_again_after_a_fall(self):
        sent = ((1, 0, "x"),)
        standing = ((PLAIN, PLAIN), sent)
        hear = ("hear", 0, 1, "x")
        for _ in range(3):
            standing = behind(RULES, 2, standing, hear)
            self.same(standing[0][0][1], ((1, "x"),))
            self.refuses(BadStep, hear, behind, RULES, 2, standing, hear)
            standing = behind(RULES, 2, standing, ("fall", 0, 0))
            self.same((standing[0][0][1], standing[1]), ((), sent))
            self.refuses(BadStep, hear, behind, RULES, 2, standing, hear)
            standing = behind(RULES, 2, standing, ("up", 0))

    def test_by_name(self):
        first = first_standing(TWO, 2)
        by_name = behind(protocol=TWO, n=2, standing=first, step=("rule", 0, 0))
        self.same(by_name, behind(TWO, 2, first, ("rule", 0, 0)))


class BadSteps(Checks):
    standing = (
        (seat(heard=((1, "x"),), log=("a", "b"), forced=1), seat(state=-1, able=False), PLAIN),
        ((1, 0, "x"), (2, 0, "x"), (2, 1, "y")),
    )

    def no(self, step):
        self.refuses(BadStep, step, behind, RULES, 3, self.standing, step)

    def test_values_of_any_kind(self):
        for thing in values_of_any_kind():
            self.no(thing)

    def test_spoiled_steps(self):
        right = steps_from(RULES, 3, self.standing)
        for step in right:
            for thing in spoiled(step):
                if repr(thing) not in [repr(other) for other in right]:
                    self.no(thing)

    def test_steps_that_cannot_be_done(self):
        for step in (
            ("rule", 0, 3), ("rule", 0, 5), ("rule", 0, -1), ("rule", 1, 0), ("rule", 3, 0), ("rule", -1, 0),
            ("fall", 0, 0), ("fall", 0, 3), ("fall", 1, 0), ("fall", 2, 1), ("force", 1), ("force", 2), ("up", 0), ("up", 2),
            ("hear", 0, 1, "x"), ("hear", 0, 2, "y"), ("hear", 1, 2, "y"), ("hear", 2, 0, "x"), ("hear", 0, 0, "x"),
            ("rest", 0), ("up", 1, 0), ("rule", 0), ("force", 0, 2), ("up",), (),
        ):
            self.no(step)

    def test_bools_and_lists(self):
        self.assertIn(("rule", 0, 1), steps_from(RULES, 3, self.standing))
        for step in (("rule", 0, True), ("rule", False, 1), ("up", True), ["up", 1], ("rule", [0], 1), ("fall", 0, True)):
            self.no(step)


if __name__ == "__main__":
    unittest.main()
