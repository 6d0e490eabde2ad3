"""Part 5: changed protocols."""

import unittest
from itertools import permutations

from allshelves.changes import called, cut_down, reordered, states_met
from allshelves.errors import BadNumber, BadPlace, BadProtocol, BadWord
from allshelves.judge import judge_alike, judge_willing, many_reached
from allshelves.protocols import is_protocol, known, marks_of, protocol_text, read_protocol
from helpers import NO_NUMBERS, Checks, spoiled, values_of_any_kind
from samples import rows_to, samples

ONE, TWO = known("oneround"), known("tworounds")
ONE_NAMES = ((("drop", "drop"), ("keep", "keep")), (("dropped", "dropped"), ("kept", "kept")))

# The kind "c" stands only in a cause, "a" only in a letter; the mark "m" is of both roles.
SMALL = read_protocol("""leader
state
on each c write m send a members send b others go 1
on able force k go 1
on timer go 0
state kept
up 0
up k 1
up m 0
member
state
on some b force m send c leader go 0
up 0
up m 0""")
SMALL_NAMES = ((("a", "a"), ("b", "b"), ("c", "c")), (("k", "k"), ("m", "m")))

# The leader's states 1, 3 and 5 are never met; nor, if there is a member, its state 1.
GAPS = read_protocol("""leader
state
on timer write m go 2
on some a write n go 3
on some a write m go 1
state kept
on able force p go 4
on timer force q go 5
state
on timer send b members go 4
on some a write o go 5
on timer go 0
state
state dropped
on timer write m go 2
state
up 0
up m 4
up n 1
up o 0
up p 2
up q 2
member
state
on some b go 2
on each c force m go 1
state
state dropped
up 2
up m 1""")
GAPS_CUT = """leader
state
on timer write m go 1
state
on timer send b members go 2
on timer go 0
state dropped
on timer write m go 1
up 0
up m 2
member
state
on some b go 1
state dropped
up 1"""


def ascending(items):
    return tuple(sorted(set(items)))


def standing_called(standing, names):
    """The standing with the new kinds and marks."""
    kinds, marks = dict(names[0]), dict(names[1])
    seats = tuple(
        (own[0], ascending((h, kinds[kind]) for h, kind in own[1]), tuple(marks[mark] for mark in own[2])) + own[3:]
        for own in standing[0]
    )
    return (seats, ascending((h, to, kinds[kind]) for h, to, kind in standing[1]))


def standing_moved(standing, orders):
    """The standing with the new positions of states."""
    seats = tuple(
        (-1 if own[0] == -1 else orders[min(h, 1)][own[0]],) + own[1:] for h, own in enumerate(standing[0])
    )
    return (seats, standing[1])


def words_in(protocol):
    """The ascending lists of kinds and of marks."""
    rules = [rule for states, _ in protocol for _, rules in states for rule in rules]
    kinds = {kind for rule in rules for kind, _ in rule[3]} | {rule[0][1] for rule in rules if len(rule[0]) == 2}
    return sorted(kinds), sorted({rule[1] for rule in rules} - {""})


def new_names(protocol):
    """Names with other words, whose order is not that of the own ones."""
    return tuple(
        tuple((word, "zyxwvutsrq"[k] + word[:9]) for k, word in enumerate(words)) for words in words_in(protocol)
    )


def back(names):
    return tuple(tuple(sorted((new, own) for own, new in pairs)) for pairs in names)


class Called(Checks):
    def test_one_round(self):
        names = ((("drop", "no"), ("keep", "go")), (("dropped", "d"), ("kept", "k")))
        text = protocol_text(called(protocol=ONE, names=names))
        wanted = protocol_text(ONE)
        for own, new in (("force dropped", "force d"), ("force kept", "force k"), ("up dropped", "up d"), ("up kept", "up k")):
            wanted = wanted.replace(own, new)
        for word in ("send", "some"):
            wanted = wanted.replace(f"{word} drop ", f"{word} no ").replace(f"{word} keep ", f"{word} go ")
        self.assertEqual(text, wanted)
        # The ends are no marks: they stay.
        self.assertEqual(text.count("state kept"), 2)

    def test_every_part(self):
        names = ((("a", "bb"), ("b", "a"), ("c", "abcdefghij")), (("k", "z"), ("m", "k")))
        self.assertEqual(protocol_text(called(SMALL, names)), """leader
state
on each abcdefghij write k send bb members send a others go 1
on able force z go 1
on timer go 0
state kept
up 0
up k 0
up z 1
member
state
on some a force k send abcdefghij leader go 0
up 0
up k 0""")

    def test_same_words(self):
        self.same(called(ONE, ONE_NAMES), ONE)
        self.same(called(SMALL, SMALL_NAMES), SMALL)

    def test_exchanged_and_back_again(self):
        names = ((("drop", "keep"), ("keep", "drop")), (("dropped", "kept"), ("kept", "dropped")))
        other = called(ONE, names)
        self.assertNotEqual(other, ONE)
        self.same(other[0][1], (("", 2), ("dropped", 1), ("kept", 2)))
        self.same(called(other, names), ONE)

    def test_a_kind_and_a_mark_may_be_the_same_word(self):
        names = ((("a", "x"), ("b", "y"), ("c", "z")), (("k", "x"), ("m", "y")))
        self.same(marks_of(called(SMALL, names)[0]), ("x", "y"))
        self.same(called(called(SMALL, names), back(names)), SMALL)

    def test_no_words(self):
        silent = read_protocol("leader\nstate\non able go 0\nup 0\nmember\nstate\nup 0")
        self.same(called(silent, ((), ())), silent)
        for thing in (((), (("m", "m"),)), ((("a", "a"),), ()), ((),), ((), (), ()), [(), ()], ([], ()), ((), [])):
            self.refuses(BadWord, thing, called, silent, thing)

    def test_samples_there_and_back(self):
        for protocol, _ in samples():
            names = new_names(protocol)
            other = called(protocol, names)
            self.assertIs(is_protocol(other), True)
            self.assertEqual(list(words_in(other)), [sorted(new for _, new in pairs) for pairs in names])
            self.same(called(other, back(names)), protocol)

    def test_its_standings_are_renamed(self):
        for protocol, n in samples()[:60]:
            names = new_names(protocol)
            other = called(protocol, names)
            wanted = {standing_called(standing, names) for standing in rows_to(protocol, n)}
            self.assertEqual(set(rows_to(other, n)), wanted)
            self.same(judge_alike(other, n)[0], judge_alike(protocol, n)[0])
            self.same(judge_willing(other, n)[0], judge_willing(protocol, n)[0])

    def refused_names(self, names):
        self.refuses(BadWord, names, called, SMALL, names)

    def test_wrong_names(self):
        kinds, marks = SMALL_NAMES
        for wrong in (
            kinds[:2], kinds[1:], (), kinds + (("d", "d"),), (("aa", "x"),) + kinds, kinds[:1] + kinds, kinds + kinds[2:],
            kinds[::-1], kinds[:1] + kinds[2:] + kinds[1:2], kinds[:2] + (("d", "c"),), kinds[:2] + (("c", "a"),),
            kinds[:2] + (("c", "b"),), list(kinds), kinds[:2] + (["c", "c"],), kinds[:2] + (("c",),), kinds[:2] + (("c", "c", "c"),),
            kinds[:2] + ("cc",), marks, dict(kinds), None, "abc",
        ):
            self.refused_names((wrong, marks))
        for wrong in (
            marks[:1], marks[1:], (), marks + (("n", "n"),), marks[::-1], marks[:1] + marks, (("k", "k"), ("m", "k")),
            (("k", "m"), ("m", "m")), (("", ""),) + marks, (("", "x"),) + marks, kinds, list(marks), None,
        ):
            self.refused_names((kinds, wrong))
        for wrong in ((kinds,), (marks, kinds), (kinds, marks, ()), [kinds, marks], kinds, {"a": "a"}):
            self.refused_names(wrong)

    def test_no_words_as_new_ones(self):
        for word in ("", "abcdefghijk", "A", "a b", "a1", "\u00e4", None, 1, True, ("a",), ["a"], {}):
            self.refused_names((SMALL_NAMES[0][:2] + (("c", word),), SMALL_NAMES[1]))
            self.refused_names((SMALL_NAMES[0], (("k", word), ("m", "m"))))
            self.refused_names((SMALL_NAMES[0], (("k", "k"), (word, "m"))))

    def test_spoiled_names(self):
        for thing in spoiled(SMALL_NAMES):
            is_right = (
                isinstance(thing, tuple) and len(thing) == 2
                and all(isinstance(pairs, tuple) and all(isinstance(pair, tuple) and len(pair) == 2 for pair in pairs) for pairs in thing)
                and [[own for own, _ in pairs] for pairs in thing] == [["a", "b", "c"], ["k", "m"]]
                and all(len({repr(new) for _, new in pairs}) == len(pairs) for pairs in thing)
                and all(isinstance(new, str) and new.isalpha() and new.islower() for pairs in thing for _, new in pairs)
            )
            if is_right:
                self.assertIs(is_protocol(called(SMALL, thing)), True)
            else:
                self.refused_names(thing)

    def test_values_of_any_kind(self):
        for thing in values_of_any_kind():
            self.refused_names(thing)
            self.refused_names((SMALL_NAMES[0], thing))
            self.refused_names((thing, SMALL_NAMES[1]))
            self.refused_names((SMALL_NAMES[0], (thing, SMALL_NAMES[1][1])))

    def test_errors(self):
        for thing in values_of_any_kind():
            self.refuses(BadProtocol, thing, called, thing, SMALL_NAMES)
        self.refuses(BadProtocol, None, called, None, None)
        # The names of another protocol.
        self.refuses(BadWord, ONE_NAMES, called, TWO, ONE_NAMES)


class Reordered(Checks):
    def test_one_round(self):
        text = protocol_text(reordered(protocol=ONE, orders=((0, 2, 1), (0, 1, 2))))
        self.assertEqual(text.split("member")[0], """leader
state
on able force kept send keep """)
        leader, member = reordered(ONE, ((0, 2, 1), (0, 1, 2)))
        self.same(member, ONE[1])
        self.same([state[0] for state in leader[0]], ["", "dropped", "kept"])
        self.same([rule[4] for rule in leader[0][0][1]], [2, 1])
        self.same(leader[1], (("", 1), ("dropped", 1), ("kept", 2)))

    def test_a_state_moves_to_the_position_that_the_tuple_has_for_it(self):
        # Of three and more states, this is not the position where it stood.
        order = (0, 2, 3, 4, 1)
        member = reordered(TWO, ((0, 1, 2, 3), order))[1]
        for state, place in enumerate(order):
            end, rules = TWO[1][0][state]
            moved = tuple(rule[:4] + (order[rule[4]],) for rule in rules)
            self.same(member[0][place], (end, moved))
        self.same(member[1], tuple((mark, order[state]) for mark, state in TWO[1][1]))

    def test_same_order(self):
        self.same(reordered(ONE, ((0, 1, 2), (0, 1, 2))), ONE)
        self.same(reordered(SMALL, ((0, 1), (0,))), SMALL)

    def test_every_order_and_back(self):
        for rest in permutations((1, 2, 3, 4)):
            order = (0,) + rest
            inverse = tuple(order.index(k) for k in range(5))
            other = reordered(TWO, ((0, 3, 1, 2), order))
            self.assertIs(is_protocol(other), True)
            self.same(reordered(other, ((0, 2, 3, 1), inverse)), TWO)

    def test_its_standings_are_moved(self):
        for protocol, n in samples()[:60]:
            orders = tuple((0,) + tuple(range(len(role[0]) - 1, 0, -1)) for role in protocol)
            wanted = {standing_moved(standing, orders) for standing in rows_to(protocol, n)}
            self.assertEqual(set(rows_to(reordered(protocol, orders), n)), wanted)

    def refused_orders(self, orders, protocol=ONE):
        self.refuses(BadPlace, orders, reordered, protocol, orders)

    def test_wrong_orders(self):
        for wrong in (
            (0, 1), (0, 1, 2, 3), (), (0,), (0, 1, 1), (0, 2, 2), (0, 0, 1), (1, 0, 2), (2, 1, 0), (1, 2, 0), (0, 1, 3), (0, -1, 1),
            (0, True, 2), (False, 1, 2), (0, 2, True), [0, 1, 2], (0, [1], 2), (0, "1", 2), (0, None, 1), "012", None, 0,
            {0: 0, 1: 1, 2: 2}, (0, (1,), 2), (0, 1, 10 ** 39),
        ):
            self.refused_orders((wrong, (0, 1, 2)))
            self.refused_orders(((0, 1, 2), wrong))
        for wrong in (((0, 1, 2),), ((0, 1, 2),) * 3, [(0, 1, 2), (0, 1, 2)], (0, 1, 2), (0, 1)):
            self.refused_orders(wrong)
        self.refused_orders(((0,), (0, 1)), SMALL)
        self.refused_orders(((0, 1), (False,)), SMALL)

    def test_values_of_any_kind(self):
        for thing in values_of_any_kind():
            self.refused_orders(thing)
            self.refused_orders((thing, (0, 1, 2)))
            self.refused_orders(((0, 1, 2), thing))
            if repr(thing) != "1":
                self.refused_orders(((0, 1, 2), (0, thing, 2)))

    def test_spoiled_orders(self):
        right = {((0, 1, 2), (0, 1, 2)), ((0, 2, 1), (0, 1, 2)), ((0, 1, 2), (0, 2, 1))}
        for thing in spoiled(((0, 1, 2), (0, 1, 2))):
            if repr(thing) not in [repr(orders) for orders in right]:
                self.refused_orders(thing)

    def test_errors(self):
        for thing in values_of_any_kind():
            self.refuses(BadProtocol, thing, reordered, thing, ((0, 1, 2), (0, 1, 2)))
        self.refuses(BadProtocol, None, reordered, None, None)


class Fewer(Checks):
    def test_states_met(self):
        self.same(states_met(ONE, 2), ((0, 1, 2), (0, 1, 2)))
        self.same(states_met(protocol=TWO, n=2), ((0, 1, 2, 3), (0, 1, 2, 3, 4)))
        self.same(states_met(GAPS, 2), ((0, 2, 4), (0, 2)))

    def test_one_house_has_no_members(self):
        self.same(states_met(ONE, 1), ((0, 1, 2), ()))
        self.same(states_met(TWO, 1), ((0, 1, 2, 3), ()))

    def test_states_met_of_samples(self):
        for protocol, n in samples():
            leader = sorted({seats[0][0] for seats, _ in rows_to(protocol, n)} - {-1})
            member = sorted({own[0] for seats, _ in rows_to(protocol, n) for own in seats[1:]} - {-1})
            self.same(states_met(protocol, n), (tuple(leader), tuple(member)))

    def test_nothing_to_cut(self):
        self.same(cut_down(ONE, 2), ONE)
        self.same(cut_down(protocol=TWO, n=2), TWO)

    def test_cut(self):
        for n in (2, 3):
            self.assertEqual(protocol_text(cut_down(GAPS, n)), GAPS_CUT)

    def test_members_of_one_house(self):
        # No state of the members is met; the state 0 stays, with the rules that stay in it.
        self.same(cut_down(ONE, 1), (ONE[0], ((("", ()),), (("", 0),))))
        staying = read_protocol("leader\nstate\nup 0\nmember\nstate kept\non timer force m go 0\non timer force k go 1\n"
                                "state\nup 1\nup k 0\nup m 1")
        wanted = read_protocol("leader\nstate\nup 0\nmember\nstate kept\non timer force m go 0\nup 0\nup m 0")
        self.same(cut_down(staying, 1), wanted)
        self.same(cut_down(staying, 2), staying)

    def test_ups_that_lead_to_another_state(self):
        # The mark can be written only where it cannot be reached any more.
        text = "leader\nstate\non some a write m go 0\nstate\nup 0\nup m 1\nmember\nstate\nup 0"
        self.assertEqual(protocol_text(cut_down(read_protocol(text), 2)), text.replace("\nstate\nup 0\nup m 1", "\nup 0\nup m 0", 1))

    def test_it_has_the_same_standings(self):
        cut = 0
        for protocol, n in samples() + ((GAPS, 2), (TWO, 1)):
            other = cut_down(protocol, n)
            self.assertIs(is_protocol(other), True)
            left = [sorted({0, *met}) for met in states_met(protocol, n)]
            places = [{state: k for k, state in enumerate(states)} for states in left]
            wanted = {standing_moved(standing, places) for standing in rows_to(protocol, n)}
            self.assertEqual(set(rows_to(other, n)), wanted)
            self.same([len(role[0]) for role in other], [len(states) for states in left])
            self.same(cut_down(other, n), other)
            self.same(many_reached(other, n), many_reached(protocol, n))
            cut += other != protocol
        self.assertGreater(cut, 20)

    def test_errors(self):
        for function in (states_met, cut_down):
            for thing in values_of_any_kind():
                self.refuses(BadProtocol, thing, function, thing, 2)
            for n in NO_NUMBERS:
                self.refuses(BadNumber, n, function, ONE, n)
            self.refuses(BadProtocol, None, function, None, 0)


if __name__ == "__main__":
    unittest.main()
