"""Wishes, and whether a store shows them ([14.3])."""

from allshelves.desks import is_waiting
from allshelves.events import worths_in
from allshelves.forms import is_count, is_tuple_of, is_word
from allshelves.rows import ROW_ENDS, has_worth_form


def has_wish_form(thing):
    if is_tuple_of(thing, 2):
        return thing[0] in ("parted", "waits") and is_count(thing[1])
    if is_tuple_of(thing, 3):
        return thing[0] in ("told", "all") and is_count(thing[1]) and thing[2] in ROW_ENDS
    if not is_tuple_of(thing, 4) or thing[0] != "worth":
        return False
    return is_count(thing[1]) and is_word(thing[2]) and has_worth_form(thing[3])


def is_shown(work, wish):
    """Whether a wish is shown by the work after a run."""
    if wish[0] == "worth":
        _, house, key, worth = wish
        return house < len(work[1]) and dict(worths_in(work, house)).get(key) == worth
    word, deal = wish[:2]
    return deal < len(work[2]) and is_shown_of(work, word, deal, wish[2:])


def is_shown_of(work, word, deal, ends):
    """Whether a wish for a deal of the store is shown; ends has the end that it names, if any."""
    houses, roles = work[2][deal]
    tolds = [role[5] for role in roles]
    if word == "waits":
        return any([is_waiting(work[1][house], deal) for house in houses])
    if word == "told":
        return any([ends[0] in told for told in tolds])
    if word == "all":
        return all([ends[0] in told for told in tolds])
    return any(["kept" in told for told in tolds]) and any(["dropped" in told for told in tolds])
