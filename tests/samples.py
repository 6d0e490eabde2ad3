"""Protocols that the tests of the judge and of what it knows go through."""

import functools
import random

from allshelves.protocols import is_protocol, known
from allshelves.standings import behind, first_standing, steps_from

ENDS = ("", "", "kept", "dropped")
CAUSES = (("able",), ("unable",), ("timer",), ("each", "a"), ("some", "a"), ("some", "b"))
WORKS = ("fall", "force", "hear", "rule", "up")


def random_rule(source, many, receivers):
    mark = source.choice(("", "", "m", "k"))
    letters = source.choice(((), (), (("a", source.choice(receivers)),), (("b", source.choice(receivers)),)))
    forced = mark != "" and source.random() < 0.6
    return (source.choice(CAUSES), mark, forced, letters, source.randrange(many))


def random_role(source, receivers):
    many = source.randrange(1, 4)
    states = tuple(
        (source.choice(ENDS), tuple(random_rule(source, many, receivers) for _ in range(source.randrange(3))))
        for _ in range(many)
    )
    marks = sorted({rule[1] for _, rules in states for rule in rules} | {""})
    return (states, tuple((mark, source.randrange(many)) for mark in marks))


def random_protocol(source):
    leader = random_role(source, ("members", "others"))
    return (leader, random_role(source, ("leader", "members", "others")))


def changed_rule(source, rule, many):
    """The rule with one part changed; it keeps its mark, or loses it."""
    cause, mark, forced, letters, goal = rule
    return source.choice((
        (source.choice(CAUSES[:3]), mark, forced, letters, goal),
        (cause, "", False, letters, goal),
        (cause, mark, mark != "" and not forced, letters, goal),
        (cause, mark, forced, (), goal),
        (cause, mark, forced, letters, source.randrange(many)),
    ))


def changed_protocol(source, protocol):
    """The protocol with a part of one of its rules, or one of its ups, changed."""
    part = source.randrange(2)
    states, ups = protocol[part]
    at = source.randrange(len(states))
    end, rules = states[at]
    if rules and source.random() < 0.8:
        r = source.randrange(len(rules))
        rules = rules[:r] + (changed_rule(source, rules[r], len(states)),) + rules[r + 1:]
    else:
        ups = tuple((mark, source.randrange(len(states)) if mark == "" else state) for mark, state in ups)
    states = states[:at] + ((end, rules),) + states[at + 1:]
    marks = {rule[1] for _, rules in states for rule in rules} | {""}
    role = (states, tuple(pair for pair in ups if pair[0] in marks))
    return (role, protocol[1]) if part == 0 else (protocol[0], role)


@functools.cache
def rows_to(protocol, n, works=WORKS, most=None):
    """A row of the fewest of these steps to each standing to which they lead; None if there are too many."""
    rows = {first_standing(protocol, n): ()}
    queue = list(rows)
    for standing in queue:
        for step in steps_from(protocol, n, standing):
            other = behind(protocol, n, standing, step)
            if step[0] in works and other not in rows:
                rows[other] = rows[standing] + (step,)
                queue.append(other)
        if most is not None and len(rows) > most:
            return None
    return rows


@functools.cache
def samples():
    """Pairs (protocol, n), with at most 1,000 reached standings each, most with far fewer."""
    one, two = known("oneround"), known("tworounds")
    found = [(two, 1), (two, 2), (one, 1), (one, 2), (known("lazy"), 1)]
    source = random.Random(11)

    def add(many, most, new):
        wanted = len(found) + many
        while len(found) < wanted:
            protocol, n = new()
            assert is_protocol(protocol)
            if (protocol, n) not in found and rows_to(protocol, n, most=most) is not None:
                found.append((protocol, n))

    add(40, 150, lambda: (random_protocol(source), source.choice((1, 2, 2, 3))))
    add(50, 150, lambda: (changed_protocol(source, changed_protocol(source, one)), source.choice((1, 2, 2, 2))))
    add(10, 1000, lambda: (changed_protocol(source, two), 2))
    return tuple(found)


@functools.cache
def lengths_to(protocol, n, works, is_goal):
    """How few of these steps lead from each reached standing to the goal; None where none do.

    The lengths are made shorter until no step makes one shorter, which is slow and plain.
    """
    standings = list(rows_to(protocol, n))
    after = {
        standing: [behind(protocol, n, standing, step) for step in steps_from(protocol, n, standing) if step[0] in works]
        for standing in standings
    }
    lengths = {standing: 0 if is_goal(protocol, standing) else None for standing in standings}
    changed = True
    while changed:
        changed = False
        for standing in standings:
            others = [lengths[other] + 1 for other in after[standing] if lengths[other] is not None]
            if others and (lengths[standing] is None or min(others) < lengths[standing]):
                lengths[standing] = min(others)
                changed = True
    return lengths
