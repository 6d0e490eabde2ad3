"""The store: deals over several houses that run by a protocol (part 10)."""

from allshelves.errors import BadNumber, BadStore
from allshelves.events import cut_amid, deal_opened, house_fallen, house_forced, house_risen, key_read, key_written
from allshelves.events import letter_heard, need_deal, need_house, page_flushed, place_in, rule_fired, rules_at
from allshelves.events import worths_in
from allshelves.forms import is_integer_in
from allshelves.needs import need_many, need_protocol
from allshelves.rows import FEWEST_HOUSES, MOST_HOUSES
from allshelves.works import new_work, standing_in, store_of, work_read


def new_store(protocol, n, many):
    need_protocol(protocol)
    if not is_integer_in(n, FEWEST_HOUSES, MOST_HOUSES):
        raise BadNumber(n)
    need_many(many)
    return store_of(new_work(protocol, n, many))


def is_store(thing):
    return work_read(thing) is not None


def work_of(store):
    """The store with its logs read."""
    work = work_read(store)
    if work is None:
        raise BadStore(store)
    return work


def opened(store, houses):
    return store_of(deal_opened(work_of(store), houses))


def read(store, deal, house, key):
    work, answer = key_read(work_of(store), deal, house, key)
    return (store_of(work), answer)


def write(store, deal, house, key, worth):
    work, answer = key_written(work_of(store), deal, house, key, worth)
    return (store_of(work), answer)


def fired(store, deal, house, r):
    return store_of(rule_fired(work_of(store), deal, house, r))


def can_fire(store, deal, house):
    work = work_of(store)
    return tuple(rules_at(work, deal, place_in(work, deal, house)))


def hears(store, deal, house, sender, kind):
    return store_of(letter_heard(work_of(store), deal, house, sender, kind))


def falls(store, house, lost):
    return store_of(house_fallen(work_of(store), house, lost))


def amid(store, thing, k, lost):
    return store_of(cut_amid(work_of(store), thing, k, lost))


def comes_up(store, house):
    return store_of(house_risen(work_of(store), house))


def flush(store, house, k):
    return store_of(page_flushed(work_of(store), house, k))


def force(store, house):
    return store_of(house_forced(work_of(store), house))


def standing_of(store, deal):
    work = work_of(store)
    need_deal(work, deal)
    return standing_in(work, deal)


def ends_of(store, deal):
    work = work_of(store)
    need_deal(work, deal)
    return tuple([role[5] for role in work[2][deal][1]])


def worths_at(store, house):
    work = work_of(store)
    need_house(work, house)
    return worths_in(work, house)
