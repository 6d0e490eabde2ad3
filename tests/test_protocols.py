"""[1.1], [1.4], and the section allshelves/protocols.py but for the texts."""

import unittest
from itertools import combinations

from allshelves.errors import BadPlace, BadProtocol, BadWord
from allshelves.protocols import forced_places, is_protocol, known, lazier, marks_of
from allshelves.protocols import protocol_text, read_protocol
from helpers import Checks, replaced, spoiled, values_of_any_kind

RULE = (("able",), "m", True, (("a", "members"),), 1)
MEMBER_RULE = (("some", "a"), "", False, (("b", "leader"),), 0)
LEADER = ((("", (RULE,)), ("kept", ())), (("", 0), ("m", 1)))
MEMBER = ((("", (MEMBER_RULE,)),), (("", 0),))
SMALL = (LEADER, MEMBER)

STATES = (0, 0)
RULES = (0, 0, 0, 1)
RULE_AT = (0, 0, 0, 1, 0)
UPS = (0, 1)


def with_rule(k, part):
    """The small protocol with another part of the leader's only rule."""
    return replaced(SMALL, RULE_AT + (k,), part)


class Form(Checks):
    def yes(self, thing):
        self.assertIs(is_protocol(thing), True, thing)
        self.same(read_protocol(protocol_text(thing)), thing)

    def no(self, thing):
        self.assertIs(is_protocol(thing), False, thing)
        self.refuses(BadProtocol, thing, protocol_text, thing)
        self.refuses(BadProtocol, thing, forced_places, thing)
        self.refuses(BadProtocol, thing, lazier, thing, ())

    def test_small_ones(self):
        self.yes(SMALL)
        self.yes((((("", ()),), (("", 0),)), ((("dropped", ()),), (("", 0),))))
        for word in ("tworounds", "lazy", "oneround"):
            self.yes(known(word))

    def test_values_of_any_kind(self):
        for thing in values_of_any_kind():
            self.no(thing)
            self.no((thing, thing))
            self.no((LEADER, thing))
            self.no((thing, MEMBER))

    def test_spoiled_protocols(self):
        right = 0
        for thing in spoiled(SMALL):
            if is_protocol(thing):
                right += 1
                self.yes(thing)
            else:
                self.no(thing)
        self.assertGreater(right, 5)

    def test_roles(self):
        self.no((LEADER,))
        self.no((LEADER, MEMBER, MEMBER))
        self.no([LEADER, MEMBER])
        self.no((MEMBER, LEADER))
        self.no((list(LEADER), MEMBER))
        self.no((LEADER + ((),), MEMBER))
        self.no((LEADER[:1], MEMBER))

    def test_number_of_states(self):
        for many in (1, 2, 11, 12):
            self.yes((LEADER, ((("", ()),) * many, (("", many - 1),))))
        self.no((LEADER, ((("", ()),) * 13, (("", 0),))))
        self.no((LEADER, ((), (("", 0),))))
        self.no((LEADER, ((), ())))

    def test_states(self):
        for end in ("kept", "dropped", ""):
            self.yes(replaced(SMALL, STATES + (1, 0), end))
        for end in ("lost", "Kept", None, False, 0, ("kept",), ["kept"]):
            self.no(replaced(SMALL, STATES + (1, 0), end))
        for state in (("kept",), ("kept", (), ()), ["kept", ()], ("kept", []), ("kept", None), ((), "kept")):
            self.no(replaced(SMALL, STATES + (1,), state))
        self.no(replaced(SMALL, STATES, [("", (RULE,)), ("kept", ())]))

    def test_number_of_rules(self):
        for many in (1, 5, 6):
            self.yes(replaced(SMALL, RULES, (RULE,) * many))
        self.no(replaced(SMALL, RULES, (RULE,) * 7))
        self.no(replaced(SMALL, RULES, [RULE]))
        self.no(replaced(SMALL, RULE_AT, list(RULE)))
        self.no(replaced(SMALL, RULE_AT, RULE[:4]))
        self.no(replaced(SMALL, RULE_AT, RULE + (0,)))

    def test_causes(self):
        for cause in (("able",), ("unable",), ("timer",), ("each", "a"), ("some", "zz"), ("some", "able")):
            self.yes(with_rule(0, cause))
        wrong = (
            "able", ["able"], (), ("each",), ("some",), ("never",), ("able", "a"), ("timer", ""),
            ("each", ""), ("each", "A"), ("each", 1), ("some", None), ("some", "a", "b"), ("each", ["a"]),
            (("able",),), ("", "a"), ("other", "a"), ["each", "a"], (True,), (0, "a"),
        )
        for cause in wrong:
            self.no(with_rule(0, cause))

    def test_words(self):
        for word in ("a", "z", "abcdefghij", "go", "on", "write", "kept"):
            self.yes(with_rule(0, ("each", word)))
            self.yes(with_rule(3, ((word, "members"),)))
            self.yes(replaced(with_rule(1, word), UPS + (1, 0), word))
        for word in ("", "abcdefghijk", "A", "a b", "a1", "a-", "a\n", "\u00e4", "\u0430", None, 1, True, ("a",), ["a"]):
            self.no(with_rule(0, ("each", word)))
            self.no(with_rule(3, ((word, "members"),)))
            self.no(replaced(with_rule(1, word), UPS + (1, 0), word))

    def test_marks_and_forcing(self):
        self.yes(with_rule(2, False))
        unmarked = replaced(SMALL, UPS, (("", 0),))
        forced_without_mark = replaced(unmarked, RULE_AT + (1,), "")
        self.no(forced_without_mark)
        self.yes(replaced(forced_without_mark, RULE_AT + (2,), False))
        for forced in (0, 1, None, "True", (True,), [True]):
            self.no(with_rule(2, forced))
        for mark in (None, False, (), ("m",)):
            self.no(with_rule(1, mark))

    def test_letters(self):
        for many in (0, 1, 3, 4):
            self.yes(with_rule(3, (("a", "members"),) * many))
        self.no(with_rule(3, (("a", "members"),) * 5))
        self.yes(with_rule(3, (("a", "others"), ("b", "members"))))
        for letters in (("a", "members"), [("a", "members")], (["a", "members"],), (("a",),), (("a", "members", 0),)):
            self.no(with_rule(3, letters))

    def test_receivers(self):
        for to in ("leader", "member", "", None, 0, ("members",), ["members"]):
            self.no(with_rule(3, (("a", to),)))
        for to in ("leader", "members", "others"):
            self.yes(replaced(SMALL, (1, 0, 0, 1, 0, 3), (("b", to),)))
        self.no(replaced(SMALL, (1, 0, 0, 1, 0, 3), (("b", "all"),)))

    def test_places(self):
        self.yes(with_rule(4, 0))
        for place in (-1, 2, 12, 10 ** 39, True, False, None, "1", (1,), [1]):
            self.no(with_rule(4, place))
            self.no(replaced(SMALL, UPS + (1, 1), place))
            self.no(replaced(SMALL, UPS + (0, 1), place))

    def test_ups(self):
        wrong = (
            (("m", 1), ("", 0)), (("m", 1),), (("", 0),), (), (("", 0), ("m", 1), ("n", 0)),
            (("", 0), ("", 0), ("m", 1)), (("", 0), ("m", 1), ("m", 1)), (("", 0), ("n", 1)), [("", 0), ("m", 1)],
            (["", 0], ("m", 1)), (("", 0, 0), ("m", 1)), ((0, ""), ("m", 1)), (("", 0), ("m",)), ((None, 0), ("m", 1)),
        )
        for ups in wrong:
            self.no(replaced(SMALL, UPS, ups))

    def test_ups_of_several_marks(self):
        rules = tuple((("timer",), mark, False, (), 0) for mark in ("c", "a", "b", "a"))
        states, ups = (("", rules), ("", ())), (("", 0), ("a", 1), ("b", 0), ("c", 1))
        self.yes((LEADER, (states, ups)))
        for k in range(4):
            self.no((LEADER, (states, ups[:k] + ups[k + 1:])))
            if k < 3:
                self.no((LEADER, (states, ups[:k] + (ups[k + 1], ups[k]) + ups[k + 2:])))

    def test_marks_of_the_other_role_do_not_count(self):
        self.no(replaced(SMALL, (1, 1), (("", 0), ("m", 0))))


class Known(Checks):
    def test_one_round(self):
        drop = (("unable",), "dropped", True, (("drop", "members"),), 2)
        keep = (("able",), "kept", True, (("keep", "members"),), 1)
        leader = ((("", (keep, drop)), ("kept", ()), ("dropped", ())), (("", 2), ("dropped", 2), ("kept", 1)))
        rules = (
            (("some", "keep"), "kept", True, (), 1), (("some", "drop"), "dropped", True, (), 2),
            (("unable",), "dropped", True, (), 2),
        )
        member = ((("", rules), ("kept", ()), ("dropped", ())), (("", 0), ("dropped", 2), ("kept", 1)))
        self.same(known("oneround"), (leader, member))

    def test_lazy_is_two_rounds_without_forcing(self):
        text = protocol_text(known("tworounds"))
        self.assertEqual(protocol_text(known("lazy")), text.replace("force", "write"))

    def test_other_words(self):
        for thing in values_of_any_kind() + ["two", "Lazy", "lazy ", ("lazy",), ["lazy"]]:
            self.refuses(BadWord, thing, known, thing)

    def test_by_name(self):
        self.same(known(word="lazy"), known("lazy"))


class Marks(Checks):
    def test_marks(self):
        self.same(marks_of(LEADER), ("m",))
        self.same(marks_of(MEMBER), ())
        self.same(marks_of(known("tworounds")[0]), ("dropped", "kept"))
        self.same(marks_of(role=known("lazy")[1]), ("dropped", "kept", "yes"))

    def test_wrong_roles(self):
        for thing in values_of_any_kind() + [SMALL, LEADER[0], (LEADER,)]:
            self.refuses(BadProtocol, thing, marks_of, thing)
        thing = replaced(LEADER, (1,), (("", 0),))
        self.refuses(BadProtocol, thing, marks_of, thing)


class Forcing(Checks):
    two = known("tworounds")
    places = ((0, 0, 1), (0, 1, 0), (0, 1, 1), (0, 1, 2), (1, 0, 1), (1, 1, 0), (1, 1, 1), (1, 2, 0), (1, 2, 1))

    def test_forced_places(self):
        self.same(forced_places(self.two), self.places)
        self.same(forced_places(protocol=SMALL), ((0, 0, 0),))
        self.same(forced_places(known("lazy")), ())

    def test_lazier(self):
        self.same(lazier(SMALL, ((0, 0, 0),)), with_rule(2, False))
        self.same(lazier(protocol=SMALL, places=()), SMALL)
        self.same(lazier(known("lazy"), ()), known("lazy"))

    def test_every_set_of_places(self):
        for chosen in range(2 ** len(self.places)):
            places = tuple(place for k, place in enumerate(self.places) if chosen >> k & 1)
            result = lazier(self.two, places)
            self.same(forced_places(result), tuple(place for place in self.places if place not in places))
            self.assertEqual(protocol_text(result).replace("write", "force"), protocol_text(self.two))

    def test_wrong_places(self):
        first, second = self.places[:2]
        wrong = [
            (second, first), (first, first), [first], (list(first),), first, (first[:2],), (first + (0,),),
            ((0, 0, 0),), ((0, False, 1),), ((False, 0, 1),), ((0, 0, True),), ((2, 0, 1),), ((-1, 0, 1),),
            ((0, 0, "1"),), (first, None), ((0, 9, 0),), ((0, 0, 9),), (first, second, first),
        ]
        for thing in wrong + [thing for thing in values_of_any_kind() if thing != ()]:
            self.refuses(BadPlace, thing, lazier, self.two, thing)

    def test_spoiled_places(self):
        right = [repr(places) for many in range(3) for places in combinations(self.places, many)]
        for thing in spoiled(self.places[:2]):
            if repr(thing) not in right:
                self.refuses(BadPlace, thing, lazier, self.two, thing)

    def test_which_error_is_first(self):
        self.refuses(BadProtocol, None, lazier, None, None)


if __name__ == "__main__":
    unittest.main()
