"""Locks, and the web of those that wait for them (part 8)."""

from allshelves.errors import BadDeal, BadKind, BadLocks, BadWeb
from allshelves.forms import are_all, are_ascending, ascending, is_count, is_integer, is_tuple_of
from allshelves.grants import KINDS, does_wait, has_locks_form, lock_asked, lock_freed, web_of
from allshelves.needs import need_word


def are_locks(thing):
    return has_locks_form(thing)


def need_locks(locks):
    if not has_locks_form(locks):
        raise BadLocks(locks)


def asked(locks, deal, key, kind):
    need_locks(locks)
    if not is_count(deal) or does_wait(locks, deal):
        raise BadDeal(deal)
    need_word(key)
    if kind not in KINDS:
        raise BadKind(kind)
    return lock_asked(locks, deal, key, kind)


def freed(locks, deal):
    need_locks(locks)
    if not is_count(deal):
        raise BadDeal(deal)
    return lock_freed(locks, deal)


def waits_for(locks):
    need_locks(locks)
    return web_of(locks)


def need_web(web):
    if not are_all(web, is_pair_of_deals) or not are_ascending(web):
        raise BadWeb(web)


def is_pair_of_deals(thing):
    return is_tuple_of(thing, 2) and is_count(thing[0]) and is_count(thing[1]) and thing[0] != thing[1]


def deals_in(web):
    return ascending([deal for pair in web for deal in pair])


def others_by_deal(web):
    """For each deal of the web, the list of those for which it waits."""
    others = {deal: [] for deal in deals_in(web)}
    for deal, other in web:
        others[deal].append(other)
    return others


def judge_web(web):
    need_web(web)
    others = others_by_deal(web)
    for deal in others:
        ring = ring_through(others, deal)
        if ring is not None:
            return ("ring", ring)
    return ("order", order_of(others))


def ring_through(others, deal):
    """A shortest ring that begins with the deal; None if it is on no ring."""
    befores = {deal: None}
    level = [deal]
    while len(level) > 0:
        following = []
        for last in level:
            if deal in others[last]:
                return row_back(befores, last)
            for other in others[last]:
                if other not in befores:
                    befores[other] = last
                    following.append(other)
        level = following
    return None


def row_back(befores, last):
    """The deals on the way to the last one, each with the one before it in befores."""
    deals = []
    while last is not None:
        deals.append(last)
        last = befores[last]
    return tuple(deals[::-1])


def order_of(others):
    """The deals of a web without rings, each after all those for which it waits."""
    placed = {}
    while len(placed) < len(others):
        for deal in others:
            if deal not in placed and all([other in placed for other in others[deal]]):
                placed[deal] = True
    return tuple(list(placed))


def web_holds(web, thing):
    need_web(web)
    if not is_tuple_of(thing, 2) or not are_all(thing[1], is_integer):
        return False
    return (thing[0] == "ring" and is_ring(web, thing[1])) or (thing[0] == "order" and is_order(web, thing[1]))


def is_ring(web, deals):
    if len(deals) < 2 or len(set(deals)) < len(deals):
        return False
    return all([(deals[k - 1], deals[k]) in web for k in range(len(deals))])


def is_order(web, deals):
    if len(set(deals)) < len(deals) or ascending(deals) != deals_in(web):
        return False
    return all([deals.index(other) < deals.index(deal) for deal, other in web])


def victim(web):
    need_web(web)
    others = others_by_deal(web)
    on_rings = [deal for deal in others if ring_through(others, deal) is not None]
    return max(on_rings, default=None)
