"""Protocols as data (part 1)."""

from allshelves.errors import BadPlace, BadProtocol, BadText, BadWord
from allshelves.forms import are_ascending, is_flat
from allshelves.knowns import ONE_ROUND, TWO_ROUNDS
from allshelves.needs import need_protocol
from allshelves.roles import MEMBER_SENDS_TO, has_protocol_form, has_role_form, marks_in
from allshelves.texts import Reader, protocol_lines, protocol_read


def is_protocol(thing):
    return has_protocol_form(thing)


def protocol_text(protocol):
    need_protocol(protocol)
    return "\n".join(protocol_lines(protocol))


def read_protocol(text):
    if not isinstance(text, str):
        raise BadText(0)
    reader = Reader(text.split("\n"))
    protocol = protocol_read(reader)
    reader.finish()
    return protocol


def known(word):
    if word == "oneround":
        return read_protocol(ONE_ROUND)
    if word not in ("tworounds", "lazy"):
        raise BadWord(word)
    protocol = read_protocol(TWO_ROUNDS)
    return protocol if word == "tworounds" else lazier(protocol, forced_places(protocol))


def marks_of(role):
    # What a leader may have, a member may have, too.
    if not has_role_form(role, MEMBER_SENDS_TO):
        raise BadProtocol(role)
    return marks_in(role[0])


def forced_places(protocol):
    need_protocol(protocol)
    return tuple([place for place, rule in placed_rules(protocol) if rule[2]])


def placed_rules(protocol):
    """The pairs (place, rule) of all rules, in ascending order of their places."""
    return [
        ((part, at, r), rule)
        for part, (states, _) in enumerate(protocol)
        for at, (_, rules) in enumerate(states)
        for r, rule in enumerate(rules)
    ]


def lazier(protocol, places):
    choices = forced_places(protocol)
    if not are_some_of(places, choices):
        raise BadPlace(places)
    return tuple([lazier_role(role, part, places) for part, role in enumerate(protocol)])


def are_some_of(thing, choices):
    """Whether any value is an ascending tuple of some of the places."""
    if not isinstance(thing, tuple):
        return False
    return all([is_flat(place) and place in choices for place in thing]) and are_ascending(thing)


def lazier_role(role, part, places):
    states, ups = role
    return (tuple([lazier_state(state, part, at, places) for at, state in enumerate(states)]), ups)


def lazier_state(state, part, at, places):
    end, rules = state
    return (end, tuple([lazier_rule(rule, (part, at, r), places) for r, rule in enumerate(rules)]))


def lazier_rule(rule, place, places):
    cause, mark, forced, letters, goal = rule
    return (cause, mark, forced and place not in places, letters, goal)
