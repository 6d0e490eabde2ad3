"""[1.3]: texts of protocols, and read_protocol at wrong ones."""

import unittest

from allshelves.errors import BadText
from allshelves.protocols import known, protocol_text, read_protocol
from helpers import Checks, values_of_any_kind

SMALL = """leader
state
on able force m send a members go 1
on each abcdefghij write b go 0
state kept
up 0
up b 1
up m 1
member
state
on some a send b leader send c others go 0
state dropped
on unable go 1
up 1""".split("\n")

WRONG_STATES = (
    "", "state ", " state", "state  kept", "state kept ", "state lost", "state Kept", "State", "states",
    "statekept", "state kept dropped", "state 0", "state\tkept", "state kept\r",
)
WRONG_RULES = (
    "on", "on ", "On able go 1", "onable go 1", " on able go 1", "on able", "on able ", "on able go", "on able go ",
    "on able go 1 ", "on able  go 1", "on  able go 1", "on able go 1 1", "on able go 1 go 1", "on able go a",
    "on able go 01", "on able go +1", "on able go -1", "on able go 1.0", "on able go \u0661", "on able go 12",
    "on able go 100", "on go 1", "on never go 1", "on able unable go 1", "on able a go 1", "on each go 1", "on some go 1",
    "on each", "on each  go 1", "on each A go 1", "on each abcdefghijk go 1", "on some a b go 1", "on each a1 go 1",
    "on able write go 1", "on able write  go 1", "on able force go 1", "on able write A go 1", "on able force  go 1",
    "on able write abcdefghijk go 1", "on able write a write b go 1", "on able write a force b go 1", "on able keep a go 1",
    "on able send go 1", "on able send a go 1", "on able send a all go 1", "on able send A members go 1",
    "on able send  members go 1", "on able send members go 1", "on able send a leaders go 1", "on able send abcdefghijk members go 1",
    "on able send a members write m go 1", "on able" + " send a members" * 5 + " go 1", "on able go 1 send a members",
    "on able\tgo 1", "on able go 1\r", "able go 1", "on 1 go 1", "on able write m", "on able send a members",
)
RIGHT_RULES = (
    "on able go 0", "on able go 11", "on unable go 1", "on timer go 1", "on some go go 1", "on each each go 1",
    "on each write go 1", "on some a write write go 1", "on able force force send send members go 1",
    "on timer write go send go members go 1", "on able" + " send a members" * 4 + " go 1",
    "on some abcdefghij force abcdefghij send abcdefghij others send z members go 10", "on some on go 1",
)


class Texts(Checks):
    def wrong_at(self, lines, at):
        raised = self.refused(BadText, read_protocol, "\n".join(lines))
        self.same(vars(raised), {"at": at})

    def with_line(self, number, *lines):
        return SMALL[:number - 1] + list(lines) + SMALL[number:]


class Reading(Texts):
    def test_the_small_text(self):
        leader = (
            (("", ((("able",), "m", True, (("a", "members"),), 1), (("each", "abcdefghij"), "b", False, (), 0))), ("kept", ())),
            (("", 0), ("b", 1), ("m", 1)),
        )
        member = (
            (("", ((("some", "a"), "", False, (("b", "leader"), ("c", "others")), 0),)),
             ("dropped", ((("unable",), "", False, (), 1),))),
            (("", 1),),
        )
        self.same(read_protocol("\n".join(SMALL)), (leader, member))
        self.same(protocol_text((leader, member)), "\n".join(SMALL))

    def test_there_and_back(self):
        for word in ("tworounds", "lazy", "oneround"):
            self.same(read_protocol(text=protocol_text(protocol=known(word))), known(word))

    def test_no_string(self):
        for thing in values_of_any_kind() + [tuple(SMALL), list(SMALL), known("lazy")]:
            if not isinstance(thing, str):
                self.same(self.refused(BadText, read_protocol, thing).at, 0)

    def test_strings_of_any_kind(self):
        for thing in values_of_any_kind():
            if isinstance(thing, str):
                self.same(self.refused(BadText, read_protocol, thing).at, 1)

    def test_missing_lines(self):
        for text in (SMALL, protocol_text(known("tworounds")).split("\n")):
            for many in range(1, len(text)):
                self.wrong_at(text[:many], many + 1)
        self.wrong_at([], 1)

    def test_lines_too_many(self):
        for line in ("", "leader", "member", "state", "up 1", "up a 1", "on able go 1", "houses 2"):
            self.wrong_at(SMALL + [line], len(SMALL) + 1)

    def test_first_line(self):
        for line in ("", "Leader", "leader ", " leader", "member", "state", "leaders", "leader\r"):
            self.wrong_at(self.with_line(1, line), 1)

    def test_member_line(self):
        for line in ("", "Member", "member ", "leader", "state", "up 0", "up n 0", "on able go 0", "members"):
            self.wrong_at(self.with_line(9, line), 9)

    def test_first_of_several_wrong_lines(self):
        lines = ["wrong" if k in (3, 6, 9) else line for k, line in enumerate(SMALL)]
        self.wrong_at(lines, 4)

    def test_no_other_separators(self):
        for separator in ("\r\n", "\r", "\n\n", " ", "\x0b", "\u2028"):
            raised = self.refused(BadText, read_protocol, separator.join(SMALL))
            self.assertIn(raised.at, (1, 2))


class States(Texts):
    def test_wrong_lines(self):
        for line in WRONG_STATES:
            for number in (2, 5, 10, 12):
                self.wrong_at(self.with_line(number, line), number)

    def test_no_states(self):
        self.wrong_at(["leader", "up 0"], 2)
        self.wrong_at(["leader", "on able go 0"], 2)
        self.wrong_at(["leader", "member"], 2)

    def test_twelve_states_and_thirteen(self):
        states = ["state"] * 12
        read_protocol("\n".join(["leader"] + states + ["up 11", "member"] + states + ["up 11"]))
        self.wrong_at(["leader"] + states + ["state"], 14)
        self.wrong_at(["leader"] + states + ["state kept", "up 0"], 14)
        self.wrong_at(["leader", "state", "up 0", "member"] + states + ["state"], 17)


class Rules(Texts):
    def test_wrong_lines(self):
        for line in WRONG_RULES:
            for number in (3, 4, 11, 13):
                self.wrong_at(self.with_line(number, line), number)

    def test_right_lines(self):
        for line in RIGHT_RULES:
            for number in (3, 4, 11, 13):
                self.wrong_at(SMALL[:number - 1] + [line], number + 1)
                self.wrong_at(SMALL[:number - 1] + [line, "wrong"], number + 1)

    def test_letters_to_the_leader(self):
        line = "on able send a leader go 1"
        self.wrong_at(self.with_line(3, line), 3)
        self.wrong_at(self.with_line(3, "on able send a others send a leader go 1"), 3)
        read_protocol("\n".join(self.with_line(13, line)))

    def test_six_rules_and_seven(self):
        rules = ["on timer go 0"] * 6
        read_protocol("\n".join(["leader", "state"] + rules + ["up 0", "member", "state"] + rules + ["up 0"]))
        self.wrong_at(["leader", "state"] + rules + ["on timer go 0"], 9)
        self.wrong_at(["leader", "state"] + rules + ["state"] + rules + ["on timer go 0", "up 0"], 16)
        self.wrong_at(["leader", "state", "up 0", "member", "state"] + rules + ["on timer go 0"], 12)

    def test_a_state_that_never_follows(self):
        for place in range(1, 12):
            for states in range(1, 13):
                lines = ["leader", "state", f"on able go {place}"] + ["state"] * (states - 1)
                if place < states:
                    self.wrong_at(lines + ["up 0"], len(lines) + 2)
                else:
                    self.wrong_at(lines + ["up 0", "member"], len(lines) + 1)
                    self.wrong_at(lines, len(lines) + 1)

    def test_a_state_of_a_member_that_never_follows(self):
        lines = ["leader", "state", "state", "up 1", "member", "state", "on timer go 1"]
        self.wrong_at(lines + ["up 0"], 8)
        read_protocol("\n".join(lines + ["state", "up 0"]))

    def test_the_last_state_can_go_anywhere_else(self):
        lines = ["leader"] + ["state"] * 12 + ["on able go 11", "up 0", "member", "state", "up 0"]
        self.assertEqual(read_protocol("\n".join(lines))[0][0][11][1][0][4], 11)


class Ups(Texts):
    def test_wrong_lines(self):
        wrong = (
            "", "up", "up ", "Up 0", "up  0", "up 0 ", "up 00", "up -1", "up +0", "up 2", "up 12", "up x", "up 0 0",
            "up b 2", "up b", "up b ", "up b 01", "up B 0", "up m 2", "up n 0", "up a 0", "up b 0 0", "on able go 0 ", "member", "up 0\r",
        )
        for line in wrong:
            for number in (6, 7, 8, 14):
                self.wrong_at(self.with_line(number, line), number)

    def test_out_of_order(self):
        self.wrong_at(self.with_line(6, "up b 0"), 6)
        self.wrong_at(self.with_line(7, "up 0"), 7)
        self.wrong_at(self.with_line(7, "up m 0"), 7)
        self.wrong_at(self.with_line(8, "up b 0"), 8)
        self.wrong_at(SMALL[:7] + SMALL[8:], 8)
        self.wrong_at(SMALL[:6] + SMALL[7:], 7)
        self.wrong_at(SMALL[:8] + ["up m 1"] + SMALL[8:], 9)

    def test_marks_of_the_other_role(self):
        self.wrong_at(SMALL + ["up b 1"], 15)
        self.wrong_at(self.with_line(13, "on unable write k go 1") + ["up m 1"], 15)
        read_protocol("\n".join(self.with_line(13, "on unable write k go 1") + ["up k 1"]))

    def test_a_mark_that_is_written_twice(self):
        lines = self.with_line(13, "on unable write k go 1", "on able force k go 1")
        read_protocol("\n".join(lines + ["up k 0"]))
        self.wrong_at(lines + ["up k 0", "up k 0"], 17)


class Longest(Texts):
    def test_many_lines(self):
        rules = [
            f"on some abcdefghij force {'abcdefgh'[k] * 9}{'abcdefghijkl'[s]}" + " send abcdefghij members" * 4 + " go 11"
            for s in range(12) for k in range(6)
        ]
        marks = sorted(rule.split(" ")[4] for rule in rules)
        role = [line for s in range(12) for line in ["state dropped"] + rules[6 * s:6 * s + 6]]
        role = role + ["up 11"] + [f"up {mark} 11" for mark in marks]
        text = "\n".join(["leader"] + role + ["member"] + role)
        self.assertEqual(protocol_text(read_protocol(text)), text)
        self.wrong_at(["leader"] + role + ["member"] + role[:-1], 2 * len(role) + 2)


if __name__ == "__main__":
    unittest.main()
