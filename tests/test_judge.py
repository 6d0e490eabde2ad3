"""Part 3: the judge."""

import time
import unittest

from allshelves.errors import BadNumber, BadProtocol
from allshelves.judge import alike_holds, is_taken, judge_alike, judge_willing, many_reached, willing_holds
from allshelves.protocols import known, read_protocol
from allshelves.standings import is_row, standing_behind, steps_from
from helpers import NO_NUMBERS, Checks, spoiled, values_of_any_kind
from samples import rows_to, samples

ONE, TWO, LAZY = known("oneround"), known("tworounds"), known("lazy")

# The ends of the first states differ.
BORN_PARTED = read_protocol("leader\nstate kept\nup 0\nmember\nstate dropped\nup 0")
# Nothing is ever told.
SILENT = read_protocol("leader\nstate\non able force m go 0\nup 0\nup m 0\nmember\nstate\nup 0")
# A house keeps without having said that it is able.
UNASKED = read_protocol("leader\nstate\non timer force kept go 1\nstate kept\nup 0\nup kept 1\nmember\nstate\nup 0")
# All say that they are able and force this, then all keep; nobody can be too late.
CAREFUL = read_protocol("""leader
state
on able force yes go 1
state
on each yes force kept send keep members go 2
state kept
up 0
up kept 2
up yes 1
member
state
on able force yes send yes leader go 1
state
on some keep force kept go 2
on timer send yes leader go 1
state kept
up 0
up kept 2
up yes 1""")
# The same, but the members do not force that they are able.
CARELESS = read_protocol("\n".join([
    "leader", "state", "on able force yes go 1", "state", "on each yes force kept go 2", "state kept", "up 0", "up kept 2",
    "up yes 1", "member", "state", "on able write yes send yes leader go 1", "state", "up 0", "up yes 1",
]))

KINDS = (
    (judge_alike, alike_holds, ("alike", "parts"), lambda standing: is_parted(standing)),
    (judge_willing, willing_holds, ("willing", "against"), lambda standing: is_unwilling(standing)),
)


def is_parted(standing):
    told = {end for own in standing[0] for end in own[7]}
    return told == {"kept", "dropped"}


def is_unwilling(standing):
    if not any("kept" in own[7] for own in standing[0]):
        return False
    return min(own[5] for own in standing[0]) == -1 or not all(own[6] for own in standing[0])


def is_right(protocol, n, thing, words, is_against):
    """Whether a value is a certificate, found by looking at all reached standings."""
    rows = rows_to(protocol, n)
    lengths = [len(row) for standing, row in rows.items() if is_against(standing)]
    if not lengths:
        return repr(thing) == repr((words[0], len(rows)))
    if not isinstance(thing, tuple) or len(thing) != 2 or thing[0] != words[1] or not is_row(protocol, n, thing[1]):
        return False
    return len(thing[1]) == min(lengths) and is_against(standing_behind(protocol, n, thing[1]))


def rows_of(protocol, n, many):
    """All rows of so many steps."""
    if many == 0:
        return [()]
    rows = rows_of(protocol, n, many - 1)
    return [row + (step,) for row in rows for step in steps_from(protocol, n, standing_behind(protocol, n, row))]


class Judged(Checks):
    def test_samples(self):
        seen = set()
        for protocol, n in samples():
            for judge, holds, words, is_against in KINDS:
                told = judge(protocol, n)
                self.assertTrue(is_right(protocol, n, told, words, is_against), (protocol, n, told))
                self.assertIs(holds(protocol, n, told), True)
                self.assertIs(holds(protocol=protocol, n=n, thing=told), True)
                self.same(judge(protocol=protocol, n=n), told)
                seen.add((told[0], n))
        self.assertEqual(seen, {(word, n) for _, _, words, _ in KINDS for word in words for n in (1, 2, 3)})

    def test_taken(self):
        seen = set()
        for protocol, n in samples():
            kinds = (judge_alike(protocol, n)[0], judge_willing(protocol, n)[0])
            self.assertIs(is_taken(protocol, n), kinds == ("alike", "willing"))
            seen.add(kinds)
        self.assertEqual(len(seen), 3)
        self.assertIs(is_taken(protocol=TWO, n=2), True)

    def test_number_of_reached_standings(self):
        self.same(many_reached(TWO, 2), 670)
        self.same(many_reached(protocol=ONE, n=2), 96)
        for protocol, n in samples():
            self.same(many_reached(protocol, n), len(rows_to(protocol, n)))

    def test_known_ones(self):
        self.same(judge_alike(TWO, 2), ("alike", 670))
        self.same(judge_willing(TWO, 2), ("willing", 670))
        self.same(judge_alike(ONE, 2), ("parts", (("rule", 0, 0), ("rule", 1, 2))))
        self.same(judge_alike(ONE, 1), ("alike", 10))
        self.assertEqual([is_taken(TWO, n) for n in (1, 2)], [True, True])
        self.assertEqual([is_taken(ONE, n) for n in (1, 2, 3, 4)], [True, False, False, False])
        self.assertEqual([is_taken(LAZY, n) for n in (1, 2)], [False, False])

    def test_two_rounds_with_three_houses(self):
        # Far beyond the limits, but the judge takes it.
        self.assertIs(is_taken(TWO, 3), True)

    def test_without_forcing_a_house_forgets_its_end(self):
        row = (("rule", 0, 0), ("rule", 0, 0), ("fall", 0, 0), ("up", 0))
        self.same(judge_alike(LAZY, 1), ("parts", row))
        self.same(judge_willing(LAZY, 1), ("against", row[:3]))

    def test_parted_from_the_start(self):
        for n in (2, 3, 4):
            self.same(judge_alike(BORN_PARTED, n), ("parts", ()))
            self.assertIs(alike_holds(BORN_PARTED, n, ("parts", ())), True)
            self.assertIs(alike_holds(BORN_PARTED, n, ("parts", (("fall", 0, 0),))), False)
        self.same(judge_alike(BORN_PARTED, 1), ("alike", 3))
        self.same(judge_willing(BORN_PARTED, 1), ("against", ()))

    def test_two_ends_at_one_house(self):
        both = read_protocol("leader\nstate kept\non timer go 1\nstate dropped\nup 0\nmember\nstate\nup 0")
        self.same(judge_alike(both, 1), ("parts", (("rule", 0, 0),)))
        # What was told is not forgotten by a fall.
        self.assertIs(alike_holds(both, 1, ("parts", (("rule", 0, 0), ("fall", 0, 0)))), False)
        self.assertIs(alike_holds(both, 1, ("parts", (("fall", 0, 0),))), False)

    def test_parted_but_willing(self):
        # Nothing is lost, but the house thinks again.
        fickle = read_protocol("leader\nstate\non able force yes go 1\nstate kept\non timer go 2\nstate dropped\nup 0\n"
                               "up yes 1\nmember\nstate\nup 0")
        row = (("rule", 0, 0), ("rule", 0, 0))
        self.same([judge_alike(fickle, 1), judge_willing(fickle, 1)[0]], [("parts", row), "willing"])
        self.assertIs(is_taken(fickle, 1), False)

    def test_nothing_told(self):
        for n in (1, 2):
            many = len(rows_to(SILENT, n))
            self.same([judge_alike(SILENT, n), judge_willing(SILENT, n)], [("alike", many), ("willing", many)])
            self.assertIs(is_taken(SILENT, n), True)

    def test_kept_before_all_have_said_that_they_are_able(self):
        row = (("rule", 0, 0),)
        for n in (1, 2):
            self.same(judge_alike(UNASKED, n)[0], "alike")
            self.same(judge_willing(UNASKED, n), ("against", row))
            self.assertIs(is_taken(UNASKED, n), False)
        # One round: the leader has said it, the member has not.
        self.same(judge_willing(ONE, 1)[0], "willing")
        self.same(judge_willing(ONE, 2), ("against", row))

    def test_kept_when_something_may_be_lost(self):
        self.assertIs(is_taken(CAREFUL, 2), True)
        self.same(judge_alike(CARELESS, 2)[0], "alike")
        word, row = judge_willing(CARELESS, 2)
        self.assertEqual((word, len(row)), ("against", 5))
        standing = standing_behind(CARELESS, 2, row)
        self.assertEqual([own[5] for own in standing[0]], [0, 0])
        self.assertEqual([own[6] for own in standing[0]], [True, False])

    def test_dropped_ones_need_nobody(self):
        drop = read_protocol("leader\nstate dropped\nup 0\nmember\nstate dropped\nup 0")
        for n in (1, 2, 3):
            self.assertIs(is_taken(drop, n), True)
            self.same(judge_alike(drop, n), ("alike", 3 ** n))


class Certificates(Checks):
    def test_rows_exactly_if_shortest(self):
        for protocol, many in ((ONE, 3), (BORN_PARTED, 2), (UNASKED, 3)):
            for rows in [rows_of(protocol, 2, k) for k in range(many + 1)]:
                for row in rows:
                    for _, holds, words, is_against in KINDS:
                        for word in words:
                            right = is_right(protocol, 2, (word, row), words, is_against)
                            self.assertIs(holds(protocol, 2, (word, row)), right, (word, row))

    def test_a_row_that_is_longer_than_needed(self):
        self.assertIs(alike_holds(ONE, 2, ("parts", (("rule", 0, 0), ("rule", 1, 2)))), True)
        for row in (
            (("fall", 1, 0), ("rule", 0, 0), ("rule", 1, 2)), (("rule", 0, 0), ("rule", 1, 2), ("fall", 0, 1)),
            (("rule", 0, 0), ("rule", 1, 2), ("hear", 1, 0, "keep")), (("rule", 0, 0), ("fall", 1, 0), ("up", 1), ("rule", 1, 2)),
        ):
            self.assertIs(alike_holds(ONE, 2, ("parts", row)), False)
            self.assertIs(willing_holds(ONE, 2, ("against", row)), False)
        self.assertIs(alike_holds(ONE, 2, ("parts", (("rule", 1, 2), ("rule", 0, 0)))), True)

    def test_a_row_to_no_such_standing(self):
        for row in ((), (("rule", 0, 0),), (("rule", 0, 0), ("hear", 1, 0, "keep")), (("rule", 0, 1), ("rule", 1, 2))):
            self.assertIs(alike_holds(ONE, 2, ("parts", row)), False)
        self.assertIs(willing_holds(ONE, 2, ("against", (("rule", 0, 1),))), False)

    def test_the_other_kind(self):
        for protocol, n in samples():
            for judge, holds, words, _ in KINDS:
                told = judge(protocol, n)
                word = words[0] if told[0] == words[1] else words[1]
                for worth in (told[1], (), 0, 1, len(rows_to(protocol, n)), (("rule", 0, 0),), (("fall", 0, 0),)):
                    self.assertIs(holds(protocol, n, (word, worth)), False)
        self.assertIs(alike_holds(TWO, 2, ("willing", 670)), False)
        self.assertIs(willing_holds(TWO, 2, ("alike", 670)), False)
        self.assertIs(willing_holds(ONE, 2, ("parts", (("rule", 0, 0),))), False)
        self.assertIs(alike_holds(ONE, 2, ("against", (("rule", 0, 0), ("rule", 1, 2)))), False)

    def test_wrong_numbers(self):
        for many in (0, 1, 669, 671, -670, 6700, 10 ** 39, "670", None, True, (670,), [670]):
            self.assertIs(alike_holds(TWO, 2, ("alike", many)), False)
            self.assertIs(willing_holds(TWO, 2, ("willing", many)), False)
        self.assertIs(alike_holds(TWO, 1, ("alike", 670)), False)

    def test_wrong_lengths(self):
        for judge, holds, _, _ in KINDS:
            for protocol in (ONE, TWO):
                word, worth = judge(protocol, 2)
                for thing in ((word,), (word, worth, worth), (worth, word), [word, worth], (word, (worth,)), ((word, worth),)):
                    self.assertIs(holds(protocol, 2, thing), False)

    def test_no_rows(self):
        row = (("rule", 0, 0), ("rule", 1, 2))
        for thing in (
            list(row), [list(step) for step in row], (list(row[0]), row[1]), row[:1] + (("rule", True, 2),), row[0],
            (("rule", False, 0), row[1]), (("rule", 0, False), row[1]), (("rule", 0, 0, 0), row[1]), row[:1] + ("rule",),
            (("rule", 0, 1), ("hear", 1, 0, "keep")), (row[0], None), row[:1] + (row[:1],), {0: row[0], 1: row[1]},
        ):
            self.assertIs(alike_holds(ONE, 2, ("parts", thing)), False, thing)

    def test_spoiled_certificates(self):
        for protocol, n in ((ONE, 1), (ONE, 2), (CARELESS, 2), (LAZY, 1), (BORN_PARTED, 2)):
            for judge, holds, words, is_against in KINDS:
                for thing in spoiled(judge(protocol, n)):
                    self.assertIs(holds(protocol, n, thing), is_right(protocol, n, thing, words, is_against), thing)

    def test_values_of_any_kind(self):
        for protocol in (ONE, TWO):
            for _, holds, words, _ in KINDS:
                for thing in values_of_any_kind():
                    self.assertIs(holds(protocol, 2, thing), False)
                    for word in words:
                        self.assertIs(holds(protocol, 2, (word, thing)), False)
                        self.assertIs(holds(protocol, 2, (thing, word)), False)
                        self.assertIs(holds(protocol, 2, (thing, ())), False)
                        self.assertIs(holds(protocol, 2, (word, (("rule", 0, 0), thing))), False)


class Errors(Checks):
    def test_protocols(self):
        for thing in values_of_any_kind() + [list(ONE), ONE[:1]]:
            for function in (judge_alike, judge_willing, is_taken, many_reached):
                self.refuses(BadProtocol, thing, function, thing, 2)
            for function in (alike_holds, willing_holds):
                self.refuses(BadProtocol, thing, function, thing, 2, ("alike", 96))

    def test_numbers(self):
        for n in NO_NUMBERS:
            for function in (judge_alike, judge_willing, is_taken, many_reached):
                self.refuses(BadNumber, n, function, ONE, n)
            for function in (alike_holds, willing_holds):
                for thing in (None, ("alike", 10), ("willing", 10)):
                    self.refuses(BadNumber, n, function, ONE, n, thing)

    def test_which_error_is_first(self):
        for function in (judge_alike, judge_willing, is_taken, many_reached):
            self.refuses(BadProtocol, None, function, None, 0)
        for function in (alike_holds, willing_holds):
            self.refuses(BadProtocol, None, function, None, 0, None)


class Time(Checks):
    def test_a_thousand_standings(self):
        begin = time.perf_counter()
        self.assertEqual(many_reached(ONE, 3), 1032)
        for judge, holds, _, _ in KINDS:
            for protocol, n in ((ONE, 3), (TWO, 2)):
                self.assertIs(holds(protocol, n, judge(protocol, n)), True)
        self.assertIs(is_taken(ONE, 3), False)
        self.assertLess(time.perf_counter() - begin, 5)


if __name__ == "__main__":
    unittest.main()
