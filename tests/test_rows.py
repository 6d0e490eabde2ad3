"""[2.3], [3.3]: rows of steps, and everything that they can lead to."""

import unittest
from itertools import permutations

from allshelves.errors import BadSteps
from allshelves.protocols import known, lazier, read_protocol
from allshelves.standings import behind, first_standing, is_row, standing_behind, steps_from
from helpers import Checks, reached, spoiled, values_of_any_kind

TWO = known("tworounds")
ONE = known("oneround")
ROW = (("rule", 0, 0), ("hear", 1, 0, "ask"), ("rule", 1, 0), ("rule", 1, 0), ("fall", 1, 1), ("up", 1))


def all_reached(protocol, n):
    return reached(
        lambda standing: steps_from(protocol, n, standing),
        lambda standing, step: behind(protocol, n, standing, step),
        first_standing(protocol, n),
    )


class Rows(Checks):
    def no(self, thing):
        self.assertIs(is_row(TWO, 2, thing), False, thing)
        self.refuses(BadSteps, thing, standing_behind, TWO, 2, thing)

    def test_right_rows(self):
        standing = first_standing(TWO, 2)
        for many in range(len(ROW) + 1):
            self.assertIs(is_row(TWO, 2, ROW[:many]), True)
            self.same(standing_behind(TWO, 2, ROW[:many]), standing)
            standing = behind(TWO, 2, standing, ROW[many]) if many < len(ROW) else None

    def test_by_name(self):
        self.same(is_row(protocol=TWO, n=2, thing=ROW), True)
        self.same(standing_behind(protocol=TWO, n=2, steps=ROW), standing_behind(TWO, 2, ROW))

    def test_long_rows(self):
        row = (("fall", 0, 0), ("up", 0)) * 30
        self.assertIs(is_row(TWO, 2, row), True)
        self.same(standing_behind(TWO, 2, row)[0][0], (3, (), (), 0, False, -1, False, ("dropped",)))
        self.no(row + (("up", 0),))

    def test_one_house_and_four(self):
        row = (("rule", 0, 0), ("rule", 0, 0))
        self.same(standing_behind(TWO, 1, row), (((2, (), ("kept",), 1, True, 0, True, ("kept",)),), ()))
        self.assertIs(is_row(TWO, 4, row), False)
        hear = tuple(("hear", 0, h, "yes") for h in (3, 1, 2))
        members = tuple(step for h in (1, 2, 3) for step in (("hear", h, 0, "ask"), ("rule", h, 0), ("rule", h, 0)))
        row = row[:1] + members + hear + row[:1]
        seats, sent = standing_behind(TWO, 4, row)
        self.same(seats[0], (2, ((1, "yes"), (2, "yes"), (3, "yes")), ("kept",), 1, True, 0, True, ("kept",)))
        self.assertEqual(len(sent), 9)
        # Each step but the last one is needed for a later one.
        for k in range(len(row) - 1):
            self.assertIs(is_row(TWO, 4, row[:k] + row[k + 1:]), False)

    def test_a_letter_is_heard_again_after_a_fall(self):
        again = ROW[:2] + (("fall", 1, 0), ("up", 1))
        self.same(standing_behind(TWO, 2, again)[0][1], (3, (), (), 0, False, -1, False, ("dropped",)))
        row = again + (("hear", 1, 0, "ask"),)
        self.same(standing_behind(TWO, 2, row)[0][1][1], ((0, "ask"),))
        self.no(row + (("hear", 1, 0, "ask"),))

    def test_values_of_any_kind(self):
        for thing in values_of_any_kind():
            if thing == ():
                continue
            self.no(thing)
            self.no((thing,))
            self.no(ROW + (thing,))
            self.no((thing,) + ROW)

    def test_spoiled_rows(self):
        right = 0
        for thing in spoiled(ROW):
            if is_row(TWO, 2, thing):
                right += 1
                standing = first_standing(TWO, 2)
                for step in thing:
                    self.assertIn(repr(step), [repr(other) for other in steps_from(TWO, 2, standing)])
                    standing = behind(TWO, 2, standing, step)
                self.same(standing_behind(TWO, 2, thing), standing)
            else:
                self.no(thing)
        self.assertGreater(right, 3)

    def test_order_and_kind(self):
        for row in permutations(ROW[:4]):
            self.assertIs(is_row(TWO, 2, row), row == ROW[:4])
        self.no(list(ROW))
        self.no(ROW[1:])
        self.no((list(ROW[0]),) + ROW[1:])
        self.no((("rule", 0, False),) + ROW[1:])
        self.no(ROW[:4] + (("fall", 1, 0),))
        self.no(ROW[:4] + (("fall", True, 1),))

    def test_rows_to_all_reached_standings(self):
        for row in all_reached(ONE, 2).values():
            self.assertIs(is_row(ONE, 2, row), True)


class Reached(Checks):
    def test_numbers(self):
        self.assertEqual(len(all_reached(TWO, 2)), 670)
        self.assertEqual(len(all_reached(ONE, 2)), 96)

    def test_bound(self):
        # s states, m marks, k kinds; L sequences of different marks out of m.
        for protocol, s, m, k, sequences in ((TWO, 5, 3, 6, 16), (ONE, 3, 2, 2, 5)):
            for n in (1, 2):
                one = 64 * (s + 1) * (m + 2) * (m + 1) * sequences * 2 ** (n * k)
                self.assertLessEqual(len(all_reached(protocol, n)), one ** n * 2 ** (n * n * k))

    def test_less_forced_reaches_more(self):
        everything = all_reached(known("lazy"), 2)
        for standing in all_reached(lazier(TWO, ((0, 1, 0), (1, 1, 0))), 2):
            self.assertIn(standing, everything)


class EverythingIsCovered(Checks):
    """[3.3]: a house depends on its own tuple and on sent alone; sent only grows."""

    def test_a_house_knows_only_its_own_tuple_and_sent(self):
        for protocol in (ONE, TWO):
            outcomes = {}
            for standing in all_reached(protocol, 2):
                steps = steps_from(protocol, 2, standing)
                for h in (0, 1):
                    own = tuple(
                        (step, behind(protocol, 2, standing, step)[0][h], behind(protocol, 2, standing, step)[1])
                        for step in steps if step[1] == h
                    )
                    self.assertEqual(outcomes.setdefault((h, standing[0][h], standing[1]), own), own)

    def test_a_step_changes_only_its_house_and_sent_only_grows(self):
        for protocol in (ONE, TWO):
            for standing in all_reached(protocol, 2):
                for step in steps_from(protocol, 2, standing):
                    seats, sent = behind(protocol, 2, standing, step)
                    self.assertEqual(seats[1 - step[1]], standing[0][1 - step[1]])
                    self.assertLessEqual(set(standing[1]), set(sent))
                    if step[0] != "rule":
                        self.assertEqual(sent, standing[1])

    def test_a_letter_may_be_heard_whenever_it_is_not_known(self):
        for protocol in (ONE, TWO):
            for standing in all_reached(protocol, 2):
                steps = steps_from(protocol, 2, standing)
                for sender, to, kind in standing[1]:
                    is_down = standing[0][to][0] == -1
                    is_known = (sender, kind) in standing[0][to][1]
                    self.assertEqual(("hear", to, sender, kind) in steps, not is_down and not is_known)

    def test_a_house_falls_and_comes_up_at_any_time(self):
        for standing in all_reached(TWO, 2):
            steps = steps_from(TWO, 2, standing)
            for h in (0, 1):
                is_down = standing[0][h][0] == -1
                falls = [step[2] for step in steps if step[:2] == ("fall", h)]
                _, _, log, forced = standing[0][h][:4]
                self.assertEqual(falls, [] if is_down else list(range(forced, len(log) + 1)))
                self.assertEqual(("up", h) in steps, is_down)
                self.assertEqual(("force", h) in steps, forced < len(log))

    def test_nothing_is_ever_heard_if_nothing_is_delivered(self):
        silent = read_protocol("leader\nstate\non timer send a members go 0\nup 0\nmember\nstate\non some a go 0\nup 0")
        standing = standing_behind(silent, 2, (("rule", 0, 0),) * 60)
        self.same(standing, (((0, (), (), 0, True, -1, True, ()),) * 2, ((0, 1, "a"),)))


if __name__ == "__main__":
    unittest.main()
