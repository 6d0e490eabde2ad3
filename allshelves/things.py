"""The things that happen in a store, and runs of them ([11.1]), in works."""

from allshelves.desks import is_up
from allshelves.errors import BadEvent, ShelfError
from allshelves.events import cut_amid, deal_opened, house_fallen, house_forced, house_risen, key_read, key_written
from allshelves.events import letter_heard, page_flushed, rule_fired, rules_at, state_at
from allshelves.thingtexts import PARTS

def has_thing_length(thing):
    if not isinstance(thing, tuple) or len(thing) == 0 or not isinstance(thing[0], str):
        return False
    return thing[0] in PARTS and len(thing) == 1 + len(PARTS[thing[0]])


def with_thing(work, thing):
    """The work after a thing; raises BadEvent with any value that cannot happen."""
    if not has_thing_length(thing):
        raise BadEvent(thing)
    try:
        return with_parts(work, thing[0], thing[1:])
    except ShelfError:
        raise BadEvent(thing)


def with_parts(work, word, parts):
    if word == "open":
        return deal_opened(work, *parts)
    if word == "read":
        return key_read(work, *parts)[0]
    if word == "write":
        return key_written(work, *parts)[0]
    if word == "fire":
        return rule_fired(work, *parts)
    if word == "hear":
        return letter_heard(work, *parts)
    if word == "fall":
        return house_fallen(work, *parts)
    if word == "amid":
        return cut_amid(work, *parts)
    if word == "up":
        return house_risen(work, *parts)
    if word == "flush":
        return page_flushed(work, *parts)
    return house_forced(work, *parts)


def works_along(work, run):
    """The list of the work and of those after each thing of a run.

    Raises BadEvent with any value that is no tuple, or with the first thing that cannot happen.
    """
    if not isinstance(run, tuple):
        raise BadEvent(run)
    works = [work]
    for thing in run:
        works.append(with_thing(works[-1], thing))
    return works


def work_behind(work, run):
    """The work after a run; raises as works_along."""
    return works_along(work, run)[-1]


def things_of_house(work, house):
    """What can happen to a house, whatever its deals: a fall loses all that is not safe."""
    desk = work[1][house]
    if not is_up(desk):
        return [("up", house)]
    (sectors, safe), pages, _ = desk[0]
    flushes = [("flush", house, k) for k in range(len(pages))]
    return [("fall", house, tuple(range(safe, len(sectors)))), ("force", house)] + flushes


def things_of_deal(work, deal):
    """The rules that can be fired for a deal, and the letters that can be heard."""
    houses, roles = work[2][deal]
    fires = [("fire", deal, house, r) for at, house in enumerate(houses) for r in rules_at(work, deal, at)]
    hears = [
        ("hear", deal, houses[at], houses[start], kind) for one, start, at, kind in work[3]
        if one == deal and state_at(work, deal, at) != -1 and (start, kind) not in roles[at][1]
    ]
    return fires + hears


def things_possible(work):
    """The ascending tuple of the things of all houses and deals."""
    things = []
    for house in range(len(work[1])):
        things.extend(things_of_house(work, house))
    for deal in range(len(work[2])):
        things.extend(things_of_deal(work, deal))
    return tuple(sorted(things))
