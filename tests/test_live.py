"""Part 4: what can still come."""

import time
import unittest
from itertools import combinations

from allshelves.errors import BadNumber, BadProtocol
from allshelves.judge import is_taken
from allshelves.live import costs, free_holds, judge_free, judge_live, lazy_lots, live_holds
from allshelves.protocols import forced_places, known, lazier, read_protocol
from allshelves.standings import behind, first_standing, is_row, standing_behind, steps_from
from helpers import NO_NUMBERS, Checks, spoiled, values_of_any_kind
from samples import lengths_to, rows_to, samples

ONE, TWO, LAZY = known("oneround"), known("tworounds"), known("lazy")
BUT_FALLS = ("force", "hear", "rule", "up")
BUT_FALLS_AND_UPS = ("force", "hear", "rule")

# No state has an end.
ENDLESS = read_protocol("leader\nstate\non timer go 0\nup 0\nmember\nstate\nup 0")
# Every state has an end.
ENDED = read_protocol("leader\nstate kept\non timer go 1\nstate dropped\nup 1\nmember\nstate dropped\nup 0")
# The leader cannot go on once it has fallen, or once it has heard a letter.
FRAIL = read_protocol("""leader
state
on able go 1
on some a go 2
state kept
state
up 2
member
state dropped
on timer send a leader go 0
up 0""")


def ends_now(protocol, standing):
    roles = protocol[:1] + protocol[1:] * len(standing[0])
    return [None if own[0] == -1 else role[0][own[0]][0] for role, own in zip(roles, standing[0])]


def is_ended(protocol, standing):
    return set(ends_now(protocol, standing)) <= {"kept", "dropped"}


def is_ended_where_up(protocol, standing):
    return set(ends_now(protocol, standing)) <= {"kept", "dropped", None}


def is_kept(protocol, standing):
    return set(ends_now(protocol, standing)) == {"kept"}


KINDS = (
    (judge_live, live_holds, ("live", "dead"), BUT_FALLS, is_ended),
    (judge_free, free_holds, ("free", "waits"), BUT_FALLS_AND_UPS, is_ended_where_up),
)


def is_right(protocol, n, thing, words, works, is_goal):
    """Whether a value is a certificate, found by looking at all reached standings."""
    lengths = lengths_to(protocol, n, works, is_goal)
    if None not in lengths.values():
        return repr(thing) == repr((words[0], max(lengths.values())))
    if not isinstance(thing, tuple) or len(thing) != 2 or thing[0] != words[1] or not is_row(protocol, n, thing[1]):
        return False
    return lengths[standing_behind(protocol, n, thing[1])] is None


class Coming(Checks):
    def test_samples(self):
        seen = set()
        for protocol, n in samples():
            for judge, holds, words, works, is_goal in KINDS:
                told = judge(protocol, n)
                self.assertTrue(is_right(protocol, n, told, words, works, is_goal), (protocol, n, told))
                self.assertIs(holds(protocol, n, told), True)
                self.assertIs(holds(protocol=protocol, n=n, thing=told), True)
                self.same(judge(protocol=protocol, n=n), told)
                seen.add((told[0], n))
                if told[0] in ("live", "free"):
                    seen.add(told)
        self.assertLessEqual({(word, n) for _, _, words, _, _ in KINDS for word in words for n in (1, 2, 3)}, seen)
        self.assertLessEqual({("live", 1), ("live", 3), ("live", 7), ("free", 0), ("free", 1), ("free", 2)}, seen)

    def test_every_row_to_such_a_standing(self):
        for protocol, n in samples()[:60]:
            for _, holds, words, works, is_goal in KINDS:
                lengths = lengths_to(protocol, n, works, is_goal)
                for standing, row in list(rows_to(protocol, n).items())[:40]:
                    self.assertIs(holds(protocol, n, (words[1], row)), lengths[standing] is None)
                    self.assertIs(holds(protocol, n, (words[0], row)), False)

    def test_known_ones(self):
        self.same(judge_live(TWO, 2), ("live", 7))
        self.same(judge_free(TWO, 2)[0], "waits")
        self.same([judge_live(ONE, 2), judge_free(ONE, 2)], [("live", 3), ("free", 2)])
        self.same([judge_live(TWO, 1), judge_free(TWO, 1)], [("live", 1), ("free", 1)])

    def test_no_end(self):
        for n in (1, 2):
            self.same(judge_live(ENDLESS, n), ("dead", ()))
            self.same(judge_free(ENDLESS, n), ("waits", ()))
            self.assertIs(live_holds(ENDLESS, n, ("dead", (("fall", 0, 0), ("up", 0)))), True)
            # While all are down nobody is waited for, but all can come up.
            everyone = tuple(("fall", h, 0) for h in range(n))
            self.assertIs(live_holds(ENDLESS, n, ("dead", everyone)), True)
            self.assertIs(free_holds(ENDLESS, n, ("waits", everyone)), False)
            self.assertIs(free_holds(ENDLESS, n, ("waits", everyone + (("up", 0),))), True)

    def test_always_ended(self):
        for n in (1, 2, 3):
            self.same(judge_free(ENDED, n), ("free", 0))
            self.same(judge_live(ENDED, n), ("live", n))
            self.assertIs(free_holds(ENDED, n, ("free", False)), False)
            self.assertIs(live_holds(ENDED, n, ("live", n - 1)), False)
        self.assertIs(live_holds(ENDED, 1, ("live", True)), False)

    def test_a_long_way(self):
        rules = "".join(f"\nstate\non able go {k + 1}" for k in range(6))
        alone = read_protocol(f"leader{rules}\nstate kept\nup 6\nmember\nstate kept\nup 0")
        self.same([judge_live(alone, 1), judge_free(alone, 1)], [("live", 6), ("free", 6)])
        self.same([judge_live(alone, 2), judge_free(alone, 2)], [("live", 7), ("free", 6)])

    def test_dead_after_a_fall_or_a_letter(self):
        for row in ((("fall", 0, 0),), (("fall", 0, 0), ("up", 0)), (("fall", 1, 0), ("fall", 0, 0), ("up", 0), ("up", 1))):
            self.assertIs(live_holds(FRAIL, 2, ("dead", row)), True)
        letter = (("rule", 1, 0), ("hear", 0, 1, "a"))
        for row in ((), letter[:1], letter, letter + (("rule", 0, 0), ("fall", 1, 0)), (("rule", 0, 0),)):
            self.assertIs(live_holds(FRAIL, 2, ("dead", row)), False)
            self.assertIs(free_holds(FRAIL, 2, ("waits", row)), False)
        self.assertIs(live_holds(FRAIL, 2, ("dead", letter + (("rule", 0, 1),))), True)
        self.assertIs(free_holds(FRAIL, 2, ("waits", letter + (("rule", 0, 1), ("fall", 1, 0)))), True)
        # The leader that is down is not waited for.
        self.assertIs(free_holds(FRAIL, 2, ("waits", (("fall", 0, 0),))), False)
        self.assertIs(free_holds(FRAIL, 2, ("waits", (("fall", 0, 0), ("up", 0)))), True)

    def test_waiting_for_the_fallen_leader(self):
        row = (("rule", 0, 0), ("hear", 1, 0, "ask"), ("rule", 1, 0), ("rule", 1, 0), ("fall", 0, 0))
        self.assertIs(free_holds(TWO, 2, ("waits", row)), True)
        self.assertIs(free_holds(TWO, 2, ("waits", row + (("rule", 1, 2), ("fall", 1, 1), ("up", 1)))), True)
        for wrong in (row[:4], row[:3], row + (("up", 0),), row + (("fall", 1, 1),), row[:3] + (("fall", 0, 0),)):
            self.assertIs(free_holds(TWO, 2, ("waits", wrong)), False)
            self.assertIs(live_holds(TWO, 2, ("dead", wrong)), False)
        self.assertIs(live_holds(TWO, 2, ("dead", row)), False)


class Certificates(Checks):
    def test_the_other_kind(self):
        for protocol, n in samples()[:60]:
            for judge, holds, words, _, _ in KINDS:
                told = judge(protocol, n)
                word = words[0] if told[0] == words[1] else words[1]
                for worth in (told[1], (), 0, 1, 2, 3, (("fall", 0, 0),), (("fall", 0, 0), ("up", 0))):
                    self.assertIs(holds(protocol, n, (word, worth)), False)
        self.assertIs(live_holds(ONE, 2, ("free", 2)), False)
        self.assertIs(free_holds(ONE, 2, ("live", 3)), False)
        self.assertIs(live_holds(ENDLESS, 2, ("waits", ())), False)
        self.assertIs(free_holds(ENDLESS, 2, ("dead", ())), False)

    def test_wrong_numbers(self):
        for most in (0, 1, 2, 3, 4, 8, -7, 10 ** 39, "3", None, True, False, (3,), [3]):
            self.assertIs(live_holds(ONE, 2, ("live", most)), repr(most) == "3")
            self.assertIs(free_holds(ONE, 2, ("free", most)), repr(most) == "2")
            self.assertIs(live_holds(ONE, 1, ("live", most)), repr(most) == "1")

    def test_wrong_lengths(self):
        for judge, holds, _, _, _ in KINDS:
            for protocol in (ONE, TWO, ENDLESS):
                word, worth = judge(protocol, 2)
                for thing in ((word,), (word, worth, worth), (worth, word), [word, worth], (word, (worth,)), ((word, worth),)):
                    self.assertIs(holds(protocol, 2, thing), False)

    def test_spoiled_certificates(self):
        for protocol, n in ((ONE, 1), (ONE, 2), (FRAIL, 2), (ENDLESS, 1), (ENDED, 2)):
            for judge, holds, words, works, is_goal in KINDS:
                for thing in spoiled(judge(protocol, n)):
                    right = is_right(protocol, n, thing, words, works, is_goal)
                    self.assertIs(holds(protocol, n, thing), right, thing)

    def test_spoiled_rows(self):
        row = (("rule", 1, 0), ("hear", 0, 1, "a"), ("rule", 0, 1), ("fall", 1, 0))
        right = 0
        for thing in spoiled(("dead", row)):
            wanted = is_right(FRAIL, 2, thing, ("live", "dead"), BUT_FALLS, is_ended)
            self.assertIs(live_holds(FRAIL, 2, thing), wanted, thing)
            right += wanted
        self.assertGreater(right, 0)

    def test_values_of_any_kind(self):
        for protocol in (ONE, ENDLESS):
            for _, holds, words, _, _ in KINDS:
                for thing in values_of_any_kind():
                    self.assertIs(holds(protocol, 2, thing), False)
                    self.assertIs(holds(protocol, 2, (words[0], thing)), False)
                    self.assertIs(holds(protocol, 2, (words[1], thing)), protocol == ENDLESS and thing == ())
                    self.assertIs(holds(protocol, 2, (thing, ())), False)
                    self.assertIs(holds(protocol, 2, (words[1], (("rule", 0, 0), thing))), False)


class Lazy(Checks):
    def lots(self, protocol, n):
        """All sets of places that may be lazy, each tried."""
        places = forced_places(protocol)
        chosen = [lot for many in range(len(places) + 1) for lot in combinations(places, many)]
        return tuple(sorted(lot for lot in chosen if is_taken(lazier(protocol, lot), n)))

    def test_samples(self):
        seen = set()
        for protocol, n in samples():
            if len(forced_places(protocol)) <= 5:
                lots = lazy_lots(protocol, n)
                self.same(lots, self.lots(protocol, n))
                self.assertEqual(() in lots, is_taken(protocol, n))
                seen.add((len(forced_places(protocol)), len(lots)))
        self.assertLessEqual({(0, 0), (0, 1), (1, 0), (1, 2), (2, 0), (2, 4), (4, 8), (4, 16), (5, 16)}, seen)

    def test_each_subset_of_a_lazy_set(self):
        for protocol, n in samples()[5:]:
            if len(forced_places(protocol)) <= 5:
                lots = lazy_lots(protocol, n)
                for lot in lots:
                    for k in range(len(lot)):
                        self.assertIn(lot[:k] + lot[k + 1:], lots)

    def test_no_forced_places(self):
        drop = read_protocol("leader\nstate dropped\nup 0\nmember\nstate dropped\nup 0")
        self.same(lazy_lots(drop, 2), ((),))
        self.same(lazy_lots(LAZY, 2), ())

    def test_none_taken(self):
        self.same(lazy_lots(ONE, 2), ())
        self.same(lazy_lots(protocol=ONE, n=2), ())

    def test_several_places(self):
        # Alone, the leader must not forget what it kept; what it drops it may.
        drop, keep = (0, 0, 1), (0, 0, 0)
        members = ((1, 0, 0), (1, 0, 1), (1, 0, 2))
        self.same(forced_places(ONE), (keep, drop) + members)
        chosen = [lot for many in range(5) for lot in combinations((drop,) + members, many)]
        self.same(lazy_lots(ONE, 1), tuple(sorted(chosen)))

    def test_two_rounds(self):
        # "yes" of the members and "kept" of the leader must be on the disk before they are known.
        lots = lazy_lots(TWO, 2)
        needed = ((0, 1, 0), (1, 1, 0))
        free = [place for place in forced_places(TWO) if place not in needed]
        chosen = [lot for many in range(len(free) + 1) for lot in combinations(free, many)]
        self.same(lots, tuple(sorted(chosen)))


# There are two ways to keep: one with fewer letters, one with fewer forced rules.
TWO_WAYS = read_protocol("""leader
state
on able force m go 1
on able write k send a members send b members go 2
state
on timer force m go 3
state
on timer go 4
state kept
state
on timer send c members go 3
up 0
up k 0
up m 0
member
state kept
on some a go 0
up 0""")


def cheapest(protocol, n):
    """The costs, found by trying to lower them until no step does."""
    rows = rows_to(protocol, n, works=BUT_FALLS)
    ends = [standing for standing in rows if is_kept(protocol, standing)]
    if not ends:
        return (None, None)
    forced = {standing: 0 if standing == first_standing(protocol, n) else 10 ** 9 for standing in rows}
    changed = True
    while changed:
        changed = False
        for standing in rows:
            for step in steps_from(protocol, n, standing):
                if step[0] != "fall":
                    role = protocol[0] if step[1] == 0 else protocol[1]
                    is_forced = step[0] == "rule" and role[0][standing[0][step[1]][0]][1][step[2]][2]
                    other = behind(protocol, n, standing, step)
                    if forced[standing] + is_forced < forced[other]:
                        forced[other] = forced[standing] + is_forced
                        changed = True
    return (min(len(standing[1]) for standing in ends), min(forced[standing] for standing in ends))


class Costs(Checks):
    def test_samples(self):
        seen = set()
        for protocol, n in samples():
            self.same(costs(protocol, n), cheapest(protocol, n))
            seen.add(costs(protocol, n))
        self.assertLessEqual({(None, None), (0, 0), (0, 1), (1, 1), (1, 2), (3, 2), (3, 3)}, seen)

    def test_known_ones(self):
        self.same([costs(TWO, n) for n in (1, 2, 3)], [(0, 1), (3, 3), (6, 5)])
        self.same([costs(ONE, n) for n in (1, 2, 3, 4)], [(0, 1), (1, 2), (2, 3), (3, 4)])
        self.same([costs(LAZY, n) for n in (1, 2)], [(0, 0), (3, 0)])
        self.same(costs(protocol=TWO, n=2), (3, 3))

    def test_no_row_keeps(self):
        self.same([costs(ENDLESS, 1), costs(ENDED, 2)], [(None, None), (None, None)])
        # Only after a fall could all keep.
        fallen = read_protocol("leader\nstate dropped\non timer force m go 0\nstate kept\nup 1\nup m 1\nmember\nstate kept\nup 0")
        self.same([costs(fallen, n) for n in (1, 2)], [(None, None), (None, None)])

    def test_kept_from_the_start(self):
        born = read_protocol("leader\nstate kept\non able force m send a members go 0\nup 0\nup m 0\nmember\nstate kept\nup 0")
        self.same([costs(born, n) for n in (1, 2, 3)], [(0, 0), (0, 0), (0, 0)])

    def test_all_houses_keep_at_once(self):
        passing = read_protocol("""leader
state
on timer force m go 1
state kept
on timer send a members go 2
state
on timer force m go 3
state kept
up 0
up m 0
member
state
on some a go 1
state kept
up 0""")
        # When the member keeps, the leader has to keep again: a mark that is there is forced once more.
        self.same([costs(passing, n) for n in (1, 2, 3)], [(0, 1), (1, 2), (2, 2)])

    def test_each_cost_by_itself(self):
        self.same([costs(TWO_WAYS, n) for n in (1, 2, 3)], [(0, 0), (0, 0), (0, 0)])

    def test_letters_that_are_sent_twice_count_once(self):
        again = read_protocol("""leader
state
on timer send a members send a members go 1
state
on timer send a others go 2
state kept
up 0
member
state kept
up 0""")
        self.same([costs(again, n) for n in (1, 2, 3)], [(0, 0), (1, 0), (2, 0)])


class Errors(Checks):
    def test_protocols(self):
        for thing in values_of_any_kind() + [list(ONE), ONE[:1]]:
            for function in (judge_live, judge_free, lazy_lots, costs):
                self.refuses(BadProtocol, thing, function, thing, 2)
            for function in (live_holds, free_holds):
                self.refuses(BadProtocol, thing, function, thing, 2, ("live", 3))

    def test_numbers(self):
        for n in NO_NUMBERS:
            for function in (judge_live, judge_free, lazy_lots, costs):
                self.refuses(BadNumber, n, function, ONE, n)
            for function in (live_holds, free_holds):
                for thing in (None, ("live", 1), ("free", 1)):
                    self.refuses(BadNumber, n, function, ONE, n, thing)

    def test_which_error_is_first(self):
        for function in (judge_live, judge_free, lazy_lots, costs):
            self.refuses(BadProtocol, None, function, None, 0)
        for function in (live_holds, free_holds):
            self.refuses(BadProtocol, None, function, None, 0, None)


class Time(Checks):
    def test_a_thousand_standings(self):
        begin = time.perf_counter()
        for judge, holds, _, _, _ in KINDS:
            for protocol, n in ((ONE, 3), (TWO, 2)):
                self.assertIs(holds(protocol, n, judge(protocol, n)), True)
        self.same([costs(ONE, 3), lazy_lots(ONE, 3)], [(2, 3), ()])
        self.assertLess(time.perf_counter() - begin, 5)


if __name__ == "__main__":
    unittest.main()
