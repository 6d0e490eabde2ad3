"""Protocols that are changed: renamed, in another order, cut down (part 5)."""

from allshelves.errors import BadPlace, BadWord
from allshelves.forms import ascending, is_integer, is_tuple_of, is_word
from allshelves.needs import need_protocol, need_protocol_for
from allshelves.roles import kinds_in, marks_in
from allshelves.search import all_reached


def called(protocol, names):
    need_protocol(protocol)
    if not are_names(protocol, names):
        raise BadWord(names)
    kinds, marks = dict(names[0]), dict(names[1])
    # A rule without a mark, and what ups says of none, stay without one.
    marks[""] = ""
    return tuple([called_role(role, kinds, marks) for role in protocol])


def are_names(protocol, thing):
    """Whether any value is names for the protocol ([5.1])."""
    if not is_tuple_of(thing, 2):
        return False
    marks = ascending(marks_in(protocol[0][0]) + marks_in(protocol[1][0]))
    return are_pairs_for(thing[0], kinds_in(protocol)) and are_pairs_for(thing[1], marks)


def are_pairs_for(thing, words):
    """Whether any value has a pair for each of the words, in order, with different new words."""
    if not is_tuple_of(thing, len(words)):
        return False
    if not all([is_pair_for(pair, word) for pair, word in zip(thing, words)]):
        return False
    return len(set([new for _, new in thing])) == len(thing)


def is_pair_for(thing, word):
    return is_tuple_of(thing, 2) and thing[0] == word and is_word(thing[1])


def called_role(role, kinds, marks):
    states, ups = role
    return (
        tuple([(end, tuple([called_rule(rule, kinds, marks) for rule in rules])) for end, rules in states]),
        tuple(sorted([(marks[mark], state) for mark, state in ups])),
    )


def called_rule(rule, kinds, marks):
    cause, mark, forced, letters, goal = rule
    if len(cause) == 2:
        cause = (cause[0], kinds[cause[1]])
    return (cause, marks[mark], forced, tuple([(kinds[kind], to) for kind, to in letters]), goal)


def reordered(protocol, orders):
    need_protocol(protocol)
    if not are_orders(protocol, orders):
        raise BadPlace(orders)
    return tuple([reordered_role(role, order) for role, order in zip(protocol, orders)])


def are_orders(protocol, thing):
    """Whether any value is orders for the protocol ([5.2])."""
    if not is_tuple_of(thing, 2):
        return False
    return all([is_order(order, len(role[0])) for role, order in zip(protocol, thing)])


def is_order(thing, many):
    """Whether any value has each position of so many states once, and begins with 0."""
    if not is_tuple_of(thing, many) or not all([is_integer(place) for place in thing]):
        return False
    return thing[0] == 0 and sorted(thing) == list(range(many))


def reordered_role(role, order):
    states = [role[0][order.index(place)] for place in range(len(order))]
    return led_elsewhere((tuple(states), role[1]), {state: place for state, place in enumerate(order)})


def led_elsewhere(role, places):
    """The role with other places of states in its rules and ups.

    A rule that leads to a state without a place is left out; a pair of ups leads to 0 instead.
    """
    states, ups = role
    return (
        tuple([(end, rules_led(rules, places)) for end, rules in states]),
        tuple([(mark, places.get(state, 0)) for mark, state in ups]),
    )


def rules_led(rules, places):
    return tuple([rule[:4] + (places[rule[4]],) for rule in rules if rule[4] in places])


def states_met(protocol, n):
    need_protocol_for(protocol, n)
    met = [(h, seat[0]) for standing in all_reached(protocol, n) for h, seat in enumerate(standing[0])]
    up = [(h, state) for h, state in met if state != -1]
    return (ascending([state for h, state in up if h == 0]), ascending([state for h, state in up if h > 0]))


def cut_down(protocol, n):
    met = states_met(protocol, n)
    return tuple([cut_role(role, ascending((0,) + states)) for role, states in zip(protocol, met)])


def cut_role(role, left):
    """The role with only the states that are left."""
    states = tuple([role[0][state] for state in left])
    states, ups = led_elsewhere((states, role[1]), {state: place for place, state in enumerate(left)})
    marks = ("",) + marks_in(states)
    return (states, tuple([(mark, state) for mark, state in ups if mark in marks]))
