"""What can still come (part 4)."""

from allshelves.forms import ascending
from allshelves.judge import is_taken
from allshelves.moves import end_of, standing_first
from allshelves.needs import need_protocol_for
from allshelves.protocols import forced_places, lazier
from allshelves.search import all_reached, lengths_to, moves_from, row_to, search, ways_by
from allshelves.seats import role_at
from allshelves.standings import row_end
from allshelves.verdicts import has_verdict_form

LIVE_WORDS = ("live", "dead")
FREE_WORDS = ("free", "waits")
STEPS_BUT_FALLS = ("force", "hear", "rule", "up")
STEPS_OF_HOUSES_UP = ("force", "hear", "rule")


def judge_live(protocol, n):
    need_protocol_for(protocol, n)
    return outlook(protocol, n, LIVE_WORDS, STEPS_BUT_FALLS, is_ended)


def judge_free(protocol, n):
    need_protocol_for(protocol, n)
    return outlook(protocol, n, FREE_WORDS, STEPS_OF_HOUSES_UP, is_ended_where_up)


def live_holds(protocol, n, thing):
    need_protocol_for(protocol, n)
    return does_hold(protocol, n, thing, LIVE_WORDS, STEPS_BUT_FALLS, is_ended)


def free_holds(protocol, n, thing):
    need_protocol_for(protocol, n)
    return does_hold(protocol, n, thing, FREE_WORDS, STEPS_OF_HOUSES_UP, is_ended_where_up)


def ends_now(protocol, standing):
    """The ends of the states of all houses, None for a house that is down."""
    seats = standing[0]
    states = [seat[0] for seat in seats]
    return [None if state == -1 else end_of(role_at(protocol, h), state) for h, state in enumerate(states)]


def is_ended(protocol, standing):
    return all([end in ("kept", "dropped") for end in ends_now(protocol, standing)])


def is_ended_where_up(protocol, standing):
    return all([end != "" for end in ends_now(protocol, standing)])


def is_kept(protocol, standing):
    return all([end == "kept" for end in ends_now(protocol, standing)])


def outlook(protocol, n, words, steps, is_goal):
    """How far the goal is at most from a reached standing, or a row to where it cannot be reached."""
    ways = all_reached(protocol, n)
    lengths = lengths_to(protocol, n, list(ways), steps, lambda other: is_goal(protocol, other))
    for standing in ways:
        if standing not in lengths:
            return (words[1], row_to(ways, standing))
    return (words[0], max(lengths.values()))


def does_hold(protocol, n, thing, words, steps, is_goal):
    """Whether any value is a certificate, whoever made it."""
    if not has_verdict_form(protocol, n, thing, words):
        return False
    if thing[0] == words[0]:
        return thing == outlook(protocol, n, words, steps, is_goal)
    standing = row_end(protocol, n, thing[1])
    return search(protocol, n, standing, steps, lambda other: is_goal(protocol, other))[0] is None


def lazy_lots(protocol, n):
    need_protocol_for(protocol, n)
    lots = [()] if is_taken(protocol, n) else []
    for place in forced_places(protocol):
        # A lot that may be lazy still may be without its last place ([4.3]), so
        # each lot with this last place is found from an earlier one.
        longer = [lot + (place,) for lot in lots]
        lots = lots + [lot for lot in longer if is_taken(lazier(protocol, lot), n)]
    return ascending(lots)


def costs(protocol, n):
    need_protocol_for(protocol, n)
    ways = ways_by(protocol, n, STEPS_BUT_FALLS)
    letters = [len(standing[1]) for standing in ways if is_kept(protocol, standing)]
    return (min(letters, default=None), fewest_forced(protocol, n))


def fewest_forced(protocol, n):
    """How few forced rules lead to a standing in which all houses keep; None if none do."""
    level, met, many = [standing_first(protocol, n)], {}, 0
    while len(level) > 0:
        following = []
        # What no forced rule leads to belongs to the same level.
        while len(level) > 0:
            standing = level.pop()
            if standing in met:
                continue
            if is_kept(protocol, standing):
                return many
            met[standing] = True
            for step, other in moves_from(protocol, n, standing, STEPS_BUT_FALLS):
                if is_forced(protocol, standing, step):
                    following.append(other)
                else:
                    level.append(other)
        level = following
        many += 1
    return None


def is_forced(protocol, standing, step):
    """Whether the step carries out a rule with a forced mark."""
    if step[0] != "rule":
        return False
    _, h, r = step
    state = standing[0][h][0]
    return role_at(protocol, h)[0][state][1][r][2]
