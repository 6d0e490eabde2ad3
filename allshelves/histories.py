"""Histories, and the orders in which they are right (part 12)."""

from allshelves.errors import BadHistory, BadPlace
from allshelves.forms import are_all, is_count, is_integer, is_integer_in, is_tuple_of, is_word
from allshelves.rows import MOST_HOUSES, has_worth_form
from allshelves.stores import work_of


def is_history(thing):
    if not are_all(thing, is_deal_with_acts):
        return False
    return len(set([deal for deal, _ in thing])) == len(thing)


def is_deal_with_acts(thing):
    return is_tuple_of(thing, 2) and is_count(thing[0]) and are_all(thing[1], is_act)


def is_act(thing):
    if not is_tuple_of(thing, 4) or thing[0] not in ("read", "write"):
        return False
    return is_integer_in(thing[1], 0, MOST_HOUSES - 1) and is_word(thing[2]) and has_worth_form(thing[3])


def need_history(history):
    if not is_history(history):
        raise BadHistory(history)


def is_order_of(history, thing):
    """Whether any value is a tuple that contains each deal of the history once."""
    if not are_all(thing, is_integer):
        return False
    return sorted(thing) == sorted([deal for deal, _ in history])


def worths_behind(worths, acts):
    """The worths by pairs (house, key) after the acts of a deal; None if a read has another worth."""
    worths = dict(worths)
    for word, house, key, worth in acts:
        if word == "write":
            worths[(house, key)] = worth
        elif worths.get((house, key)) != worth:
            return None
    return worths


def is_right(history, order):
    acts = dict(history)
    worths = {}
    for deal in order:
        worths = worths_behind(worths, acts[deal])
        if worths is None:
            return False
    return True


def is_right_in(history, order):
    need_history(history)
    if not is_order_of(history, order):
        raise BadPlace(order)
    return is_right(history, order)


def left_by(history):
    need_history(history)
    worths = {}
    for _, acts in history:
        for word, house, key, worth in acts:
            if word == "write":
                worths[(house, key)] = worth
    return tuple(sorted([place + (worth,) for place, worth in worths.items() if worth is not None]))


def judge_serial(history):
    need_history(history)
    order = right_order(dict(history), [deal for deal, _ in history], {}, {})
    return ("none",) if order is None else ("serial", order)


def right_order(acts, deals, worths, dead):
    """An order in which these deals are right after the worths; None if there is none.

    dead collects what was found to have none, so that it is not searched again.
    """
    if len(deals) == 0:
        return ()
    known = (tuple(deals), tuple([place + (worths[place],) for place in sorted(worths)]))
    if known in dead:
        return None
    for deal in deals:
        after = worths_behind(worths, acts[deal])
        if after is not None:
            rest = right_order(acts, [other for other in deals if other != deal], after, dead)
            if rest is not None:
                return (deal,) + rest
    dead[known] = True
    return None


def serial_holds(history, thing):
    need_history(history)
    if is_tuple_of(thing, 1):
        return thing[0] == "none" and judge_serial(history) == ("none",)
    if not is_tuple_of(thing, 2) or thing[0] != "serial":
        return False
    return is_order_of(history, thing[1]) and is_right(history, thing[1])


def kept_in(past):
    """The tuple of the deals that were told kept, in the order in which they were first."""
    deals = {event[1]: True for event in past if event[0] == "told" and event[3] == "kept"}
    return tuple(list(deals))


def kept_deals(store):
    return kept_in(work_of(store)[4])


def history_of(store):
    past = work_of(store)[4]
    return tuple([(deal, acts_in(past, deal)) for deal in kept_in(past)])


def acts_in(past, deal):
    """The reads and writes of a deal, without its number."""
    return tuple([event[:1] + event[2:] for event in past if event[0] != "told" and event[1] == deal])
