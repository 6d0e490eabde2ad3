"""Searches through the standings of one deal ([3.3]). Nothing is checked here."""

from allshelves.moves import all_steps, standing_after, standing_first

ALL_STEPS = ("fall", "force", "hear", "rule", "up")


def moves_from(protocol, n, standing, words):
    """The pairs (step, standing after it) of the steps with these words that can be done."""
    steps = [step for step in all_steps(protocol, n, standing) if step[0] in words]
    return [(step, standing_after(protocol, n, standing, step)) for step in steps]


def search(protocol, n, start, words, is_sought):
    """A search from a standing by steps with these words, nearest standings first.

    Returns the pair (found, ways): found is the first standing that is sought, or
    None; ways has all standings met until then, each with the pair (standing before
    it, step) that ends a row of the fewest steps to it, and the start with None.
    """
    ways = {start: None}
    if is_sought(start):
        return (start, ways)
    level = [start]
    while len(level) > 0:
        following = []
        for standing in level:
            for step, other in moves_from(protocol, n, standing, words):
                if other in ways:
                    continue
                ways[other] = (standing, step)
                if is_sought(other):
                    return (other, ways)
                following.append(other)
        level = following
    return (None, ways)


def row_to(ways, standing):
    """The row of steps that leads from the start of a search to a standing that it met."""
    steps = []
    while ways[standing] is not None:
        standing, step = ways[standing]
        steps.append(step)
    return tuple(steps[::-1])


def all_reached(protocol, n):
    """The ways to all reached standings."""
    return ways_by(protocol, n, ALL_STEPS)


def ways_by(protocol, n, words):
    """The ways to all standings to which rows of steps with these words lead."""
    return search(protocol, n, standing_first(protocol, n), words, lambda standing: False)[1]


def lengths_to(protocol, n, standings, words, is_sought):
    """How few steps with these words lead from each standing to one that is sought.

    No step leads out of the standings; those from which none is found are left out.
    """
    befores = {standing: [] for standing in standings}
    for standing in standings:
        for _, other in moves_from(protocol, n, standing, words):
            befores[other].append(standing)
    level = [standing for standing in standings if is_sought(standing)]
    lengths = {standing: 0 for standing in level}
    while len(level) > 0:
        following = []
        for standing in level:
            for before in befores[standing]:
                if before not in lengths:
                    lengths[before] = lengths[standing] + 1
                    following.append(before)
        level = following
    return lengths
