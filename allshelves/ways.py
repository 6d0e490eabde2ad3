"""What happens in a store, and the path of one deal through it (part 11)."""

from allshelves.errors import BadEvent
from allshelves.events import house_amid, need_deal, state_at, work_amid
from allshelves.moves import standing_after, standing_first
from allshelves.stores import new_store, work_of
from allshelves.things import things_possible, with_thing, work_behind, works_along
from allshelves.works import seat_in, standing_in, store_of


def happened(store, thing):
    return store_of(with_thing(work_of(store), thing))


def is_run(store, thing):
    work = work_of(store)
    try:
        work_behind(work, thing)
    except BadEvent:
        return False
    return True


def behind_run(store, run):
    return store_of(work_behind(work_of(store), run))


def what_can(store):
    return things_possible(work_of(store))


def way_of(protocol, n, many, run, deal):
    works = works_along(work_of(new_store(protocol, n, many)), run)
    need_deal(works[-1], deal)
    size = len(works[-1][2][deal][0])
    standing = standing_first(protocol, size)
    way = []
    for at, thing in enumerate(run):
        before, after = works[at], works[at + 1]
        if deal < len(before[2]):
            for step in steps_by(before, after, thing, deal):
                standing = standing_after(protocol, size, standing, step)
                way.append(step)
            for step in forces_seen(standing, standing_in(after, deal)):
                standing = standing_after(protocol, size, standing, step)
                way.append(step)
    return tuple(way)


def steps_by(before, after, thing, deal):
    """The steps of a deal that was opened to which a thing between two works corresponds."""
    if thing[0] == "amid":
        return steps_by_amid(before, after, thing, deal)
    houses = before[2][deal][0]
    if thing[0] == "fire" and thing[1] == deal:
        return [("rule", houses.index(thing[2]), thing[3])]
    if thing[0] == "hear" and thing[1] == deal:
        return [("hear", houses.index(thing[2]), houses.index(thing[3]), thing[4])]
    if thing[0] == "fall" and thing[1] in houses:
        return [fall_seen(after, deal, thing[1])]
    if thing[0] == "up" and thing[1] in houses:
        return [("up", houses.index(thing[1]))]
    return []


def steps_by_amid(before, after, thing, deal):
    _, inner, k, _ = thing
    houses = before[2][deal][0]
    house = house_amid(inner)
    if house not in houses:
        return []
    # A coming up that is cut does not reach the deals behind the last ending.
    if state_at(work_amid(before, inner, k), deal, houses.index(house)) == -1:
        return []
    return steps_by(before, after, inner, deal) + [fall_seen(after, deal, house)]


def fall_seen(after, deal, house):
    """The fall of a house of a deal, with the marks that are left after it."""
    at = after[2][deal][0].index(house)
    return ("fall", at, len(seat_in(after, deal, at)[2]))


def forces_seen(standing, wanted):
    """The steps "force" of the houses at which more marks are forced than the steps so far have forced."""
    return [("force", h) for h, seat in enumerate(standing[0]) if wanted[0][h][3] > seat[3]]
