"""The texts of protocols, written and read ([1.3])."""

from allshelves.errors import BadText
from allshelves.roles import ENDS, KIND_CAUSES, MOST_RULES, MOST_STATES
from allshelves.roles import LEADER_SENDS_TO, MEMBER_SENDS_TO
from allshelves.roles import has_rule_form, marks_in, rules_in


def protocol_lines(protocol):
    leader, member = protocol
    return ["leader"] + role_lines(leader) + ["member"] + role_lines(member)


def role_lines(role):
    states, ups = role
    lines = []
    for end, rules in states:
        lines.append(state_line(end))
        lines.extend([rule_line(rule) for rule in rules])
    return lines + [up_line(mark, state) for mark, state in ups]


def state_line(end):
    return "state" if end == "" else f"state {end}"


def rule_line(rule):
    cause, mark, forced, letters, goal = rule
    words = ["on"] + list(cause)
    if mark != "":
        words.extend(["force" if forced else "write", mark])
    for kind, to in letters:
        words.extend(["send", kind, to])
    return " ".join(words + ["go", str(goal)])


def up_line(mark, state):
    return f"up {state}" if mark == "" else f"up {mark} {state}"


class Reader:
    """The lines of a text, taken one after another."""

    def __init__(self, lines):
        self.lines = lines
        self.at = 0

    def line(self):
        # After the last line comes an empty one, which is never right, so a
        # missing line is found wrong at its number like any other.
        return self.lines[self.at] if self.at < len(self.lines) else ""

    def take(self, is_right):
        """Steps over the line, which is wrong unless it is right."""
        if not is_right:
            raise BadText(self.at + 1)
        self.at += 1

    def finish(self):
        """Finds any further line wrong."""
        if self.at < len(self.lines):
            raise BadText(self.at + 1)


def protocol_read(reader):
    """The protocol in the next lines."""
    reader.take(reader.line() == "leader")
    leader = role_read(reader, LEADER_SENDS_TO)
    reader.take(reader.line() == "member")
    return (leader, role_read(reader, MEMBER_SENDS_TO))


def role_read(reader, sends_to):
    states = [state_read(reader, sends_to)]
    while reader.line().startswith("state") and len(states) < MOST_STATES:
        states.append(state_read(reader, sends_to))
    return (tuple(states), ups_read(reader, tuple(states)))


def state_read(reader, sends_to):
    lines = [state_line(end) for end in ENDS]
    line = reader.line()
    reader.take(line in lines)
    rules = []
    while reader.line().startswith("on") and len(rules) < MOST_RULES:
        rules.append(rule_read(reader, sends_to))
    return (ENDS[lines.index(line)], tuple(rules))


def rule_read(reader, sends_to):
    line = reader.line()
    rule = rule_guessed(line)
    # Any state that a role can have may still follow.
    is_right = has_rule_form(rule, MOST_STATES, sends_to) and rule_line(rule) == line
    reader.take(is_right)
    return rule


def rule_guessed(line):
    """The only rule that can have this line; most lines are the line of no rule."""
    words = line.split(" ")[1:]
    size = 2 if words[:1] in [[word] for word in KIND_CAUSES] else 1
    cause, words = tuple(words[:size]), words[size:]
    mark, forced = "", False
    if words[:1] in [["write"], ["force"]]:
        mark, forced = "".join(words[1:2]), words[0] == "force"
        words = words[2:]
    letters = []
    while words[:1] == ["send"]:
        letters.append(tuple(words[1:3]))
        words = words[3:]
    return (cause, mark, forced, tuple(letters), place_guessed("".join(words[1:2])))


def place_guessed(word):
    places = [str(k) for k in range(MOST_STATES)]
    return places.index(word) if word in places else -1


def ups_read(reader, states):
    # Only here it is known how many states there are.
    all_exist = all([rule[4] < len(states) for rule in rules_in(states)])
    ups = []
    for mark in ("",) + marks_in(states):
        lines = [up_line(mark, k) for k in range(len(states))]
        line = reader.line()
        reader.take(all_exist and line in lines)
        ups.append((mark, lines.index(line)))
    return tuple(ups)
