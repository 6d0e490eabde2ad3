"""What the disks say, and how deals can be ended (part 13)."""

from allshelves.disks import is_device, log_on
from allshelves.errors import BadDisks, BadEvent
from allshelves.finishes import ended_by, finished, is_ended
from allshelves.forms import are_all, is_integer_in, is_same, is_tuple_of
from allshelves.logs import LogReader
from allshelves.needs import need_protocol
from allshelves.pages import has_pages_form, pages_by
from allshelves.roles import marks_in
from allshelves.rows import FEWEST_HOUSES, MOST_HOUSES
from allshelves.stores import work_of
from allshelves.things import work_behind


def are_disks(thing):
    if not are_all(thing, is_disk):
        return False
    return FEWEST_HOUSES <= len(thing) <= MOST_HOUSES


def is_disk(thing):
    return is_tuple_of(thing, 2) and is_device(thing[0]) and has_pages_form(thing[1])


def disks_of(store):
    work_of(store)
    return tuple([house[:2] for house in store[1]])


def need_disks(protocol, disks):
    need_protocol(protocol)
    if not are_disks(disks):
        raise BadDisks(disks)


def judge_disks(protocol, disks):
    need_disks(protocol, disks)
    return certificates(protocol, disks)[0]


def disks_hold(protocol, disks, thing):
    need_disks(protocol, disks)
    return any([is_same(thing, certificate) for certificate in certificates(protocol, disks)])


def certificates(protocol, disks):
    """All certificates for some disks: that they are sound, or all their faults."""
    marks = {"leader": marks_in(protocol[0][0]), "member": marks_in(protocol[1][0])}
    readers, faults = {}, []
    for h, (device, pages) in enumerate(disks):
        rows = log_on(device[0])[0]
        reader = LogReader(h, marks)
        number = reader.take_all(rows)
        if number > 0:
            faults.append(("row", h, number))
        else:
            readers[h] = reader
            faults.extend([("page", h, k) for k in wrong_pages(pages, rows)])
    for g in readers:
        for h in readers:
            if h < g:
                faults.extend(differences(readers[h], readers[g], h, g))
    return faults if len(faults) > 0 else [("sound", ends_in(list(readers.values())))]


def wrong_pages(pages, rows):
    wanted = pages_by(rows, [last for last, _ in pages])
    return [k for k, page in enumerate(pages) if page != wanted[k]]


def differences(reader, other, h, g):
    """The certificates of deals of which two logs, all of whose rows can stand, say different things."""
    found = []
    for deal, own in reader.deals.items():
        if deal in other.deals:
            if own.all_houses != other.deals[deal].all_houses:
                found.append(("houses", deal, h, g))
            if sorted([own.end, other.deals[deal].end]) == ["dropped", "kept"]:
                found.append(("unlike", deal, h, g))
    return found


def ends_in(readers):
    """The ascending tuple of the pairs (deal, end) of logs that say nothing different."""
    ends = {}
    for reader in readers:
        for deal, own in reader.deals.items():
            ends[deal] = own.end if own.end != "" else ends.get(deal, "")
    return tuple(sorted([(deal, end) for deal, end in ends.items()]))


def judge_finish(store):
    finishing, left = finished(work_of(store))
    return ("ended", finishing) if left == () else ("left", finishing, left)


def finish_holds(store, thing):
    start = work_of(store)
    if not isinstance(thing, tuple) or len(thing) not in (2, 3):
        return False
    work = work_finished(start, thing[1])
    if work is None:
        return False
    ended = [deal for deal, _ in thing[1]]
    left = tuple([deal for deal in range(len(start[2])) if deal not in ended])
    if thing[0] == "ended":
        return len(thing) == 2 and left == ()
    if thing[0] != "left" or len(thing) == 2 or left == () or not is_same(thing[2], left):
        return False
    return all([ended_by(work, deal) is None for deal in left])


def work_finished(work, thing):
    """The work after a finishing; None with any value that is none."""
    if not are_all(thing, lambda pair: is_tuple_of(pair, 2) and is_integer_in(pair[0], 0, len(work[2]) - 1)):
        return None
    if len(set([deal for deal, _ in thing])) < len(thing):
        return None
    for deal, run in thing:
        work = work_with_end(work, deal, run)
        if work is None:
            return None
    return work


def work_with_end(work, deal, thing):
    """The work after a run that ends a deal; None with any value that is none."""
    if not are_all(thing, lambda event: is_thing_for(event, deal)):
        return None
    try:
        work = work_behind(work, thing)
    except BadEvent:
        return None
    return work if is_ended(work, deal) else None


def is_thing_for(thing, deal):
    """Whether any value can be a thing "up", or "hear" or "fire" of this deal."""
    if not isinstance(thing, tuple) or len(thing) < 2:
        return False
    return thing[0] == "up" or (thing[0] in ("hear", "fire") and thing[1] == deal)
