"""The form of protocols and of the roles that they consist of ([1.1])."""

from allshelves.forms import ascending, is_integer_in, is_tuple_of, is_word

ENDS = ("kept", "dropped", "")
PLAIN_CAUSES = ("able", "unable", "timer")
KIND_CAUSES = ("each", "some")
LEADER_SENDS_TO = ("members", "others")
MEMBER_SENDS_TO = ("leader", "members", "others")
MOST_STATES = 12
MOST_RULES = 6
MOST_LETTERS = 4


def has_protocol_form(thing):
    if not is_tuple_of(thing, 2):
        return False
    return has_role_form(thing[0], LEADER_SENDS_TO) and has_role_form(thing[1], MEMBER_SENDS_TO)


def has_role_form(thing, sends_to):
    """Whether any value is a role whose letters go only to these."""
    if not is_tuple_of(thing, 2):
        return False
    states, ups = thing
    if not isinstance(states, tuple) or not 1 <= len(states) <= MOST_STATES:
        return False
    if not all([has_state_form(state, len(states), sends_to) for state in states]):
        return False
    return has_ups_form(ups, ("",) + marks_in(states), len(states))


def has_state_form(thing, many, sends_to):
    """Whether any value is a state of a role with so many states."""
    if not is_tuple_of(thing, 2):
        return False
    end, rules = thing
    if end not in ENDS or not isinstance(rules, tuple) or len(rules) > MOST_RULES:
        return False
    return all([has_rule_form(rule, many, sends_to) for rule in rules])


def has_rule_form(thing, many, sends_to):
    """Whether any value is a rule of a role with so many states."""
    if not is_tuple_of(thing, 5):
        return False
    cause, mark, forced, letters, goal = thing
    return (
        has_cause_form(cause)
        and has_marking_form(mark, forced)
        and has_letters_form(letters, sends_to)
        and is_integer_in(goal, 0, many - 1)
    )


def has_cause_form(thing):
    if is_tuple_of(thing, 1):
        return thing[0] in PLAIN_CAUSES
    return is_tuple_of(thing, 2) and thing[0] in KIND_CAUSES and is_word(thing[1])


def has_marking_form(mark, forced):
    if not isinstance(forced, bool):
        return False
    return is_word(mark) or (mark == "" and not forced)


def has_letters_form(thing, sends_to):
    if not isinstance(thing, tuple) or len(thing) > MOST_LETTERS:
        return False
    return all([has_letter_form(letter, sends_to) for letter in thing])


def has_letter_form(thing, sends_to):
    return is_tuple_of(thing, 2) and is_word(thing[0]) and thing[1] in sends_to


def has_ups_form(thing, marks, many):
    """Whether any value is ups for just these marks, in a role with so many states."""
    if not is_tuple_of(thing, len(marks)):
        return False
    return all([has_up_form(pair, mark, many) for pair, mark in zip(thing, marks)])


def has_up_form(thing, mark, many):
    return is_tuple_of(thing, 2) and thing[0] == mark and is_integer_in(thing[1], 0, many - 1)


def rules_in(states):
    return [rule for _, rules in states for rule in rules]


def marks_in(states):
    """The ascending tuple of the marks that rules of these states write."""
    return ascending([rule[1] for rule in rules_in(states) if rule[1] != ""])


def kinds_in(protocol):
    """The ascending tuple of the kinds in causes and letters of both roles."""
    rules = rules_in(protocol[0][0]) + rules_in(protocol[1][0])
    awaited = [rule[0][1] for rule in rules if len(rule[0]) == 2]
    return ascending(awaited + [kind for rule in rules for kind, _ in rule[3]])
