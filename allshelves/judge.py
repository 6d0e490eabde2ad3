"""The judge of a protocol (part 3)."""

from allshelves.moves import standing_first
from allshelves.needs import need_protocol_for
from allshelves.search import ALL_STEPS, all_reached, row_to, search
from allshelves.standings import row_end
from allshelves.verdicts import has_verdict_form

ALIKE_WORDS = ("alike", "parts")
WILLING_WORDS = ("willing", "against")


def judge_alike(protocol, n):
    need_protocol_for(protocol, n)
    return judged(protocol, n, ALIKE_WORDS, is_parted)


def judge_willing(protocol, n):
    need_protocol_for(protocol, n)
    return judged(protocol, n, WILLING_WORDS, is_unwilling)


def alike_holds(protocol, n, thing):
    need_protocol_for(protocol, n)
    return does_hold(protocol, n, thing, ALIKE_WORDS, is_parted)


def willing_holds(protocol, n, thing):
    need_protocol_for(protocol, n)
    return does_hold(protocol, n, thing, WILLING_WORDS, is_unwilling)


def is_taken(protocol, n):
    need_protocol_for(protocol, n)
    return search(protocol, n, standing_first(protocol, n), ALL_STEPS, is_wrong)[0] is None


def many_reached(protocol, n):
    need_protocol_for(protocol, n)
    return len(all_reached(protocol, n))


def is_parted(standing):
    ends = [end for seat in standing[0] for end in seat[7]]
    return "kept" in ends and "dropped" in ends


def is_unwilling(standing):
    seats = standing[0]
    has_kept = any(["kept" in seat[7] for seat in seats])
    return has_kept and any([seat[5] == -1 or not seat[6] for seat in seats])


def is_wrong(standing):
    return is_parted(standing) or is_unwilling(standing)


def judged(protocol, n, words, is_against):
    """The number of the reached standings, if none is against, or a shortest row to one."""
    found, ways = search(protocol, n, standing_first(protocol, n), ALL_STEPS, is_against)
    if found is None:
        return (words[0], len(ways))
    return (words[1], row_to(ways, found))


def does_hold(protocol, n, thing, words, is_against):
    """Whether any value is a certificate, whoever made it."""
    if not has_verdict_form(protocol, n, thing, words):
        return False
    if thing[0] == words[1] and not is_against(row_end(protocol, n, thing[1])):
        return False
    verdict = judged(protocol, n, words, is_against)
    if thing[0] == words[0]:
        return thing == verdict
    return len(thing[1]) == len(verdict[1])
