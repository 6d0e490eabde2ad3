"""Locks, and how they are granted ([8.1] to [8.4]). Nothing is checked here but forms."""

from allshelves.forms import are_all, are_ascending, ascending, is_count, is_tuple_of, is_word

KINDS = ("read", "write")


def has_locks_form(thing):
    if not is_tuple_of(thing, 2):
        return False
    held, waits = thing
    if not are_all(held, is_hold) or not are_all(waits, is_wait):
        return False
    if not are_ascending(held) or not are_in_keeping(held) or len(set([deal for deal, _, _ in waits])) < len(waits):
        return False
    return all([is_lacking(held, deal, key, kind) for deal, key, kind in waits])


def is_hold(thing):
    return is_tuple_of(thing, 3) and is_word(thing[0]) and is_count(thing[1]) and thing[2] in KINDS


def is_wait(thing):
    return is_tuple_of(thing, 3) and is_hold((thing[1], thing[0], thing[2]))


def are_compatible(kind, other):
    return kind == "read" and other == "read"


def are_in_keeping(held):
    """Whether all deals that hold the same key hold it in compatible kinds."""
    # So no deal holds a key twice: in different kinds, one of them would be "write".
    keys = [key for key, _, _ in held]
    return all([kind == "read" or keys.count(key) == 1 for key, _, kind in held])


def kind_held(held, deal, key):
    """The kind in which the deal holds the key, "" if it does not."""
    for other_key, other, kind in held:
        if other == deal and other_key == key:
            return kind
    return ""


def is_lacking(held, deal, key, kind):
    """Whether the deal does not hold what it asks for."""
    return kind_held(held, deal, key) not in (kind, "write")


def does_wait(locks, deal):
    return deal in [waiting for waiting, _, _ in locks[1]]


def in_the_way(held, waits, deal, key, kind):
    """The other deals that hold the key, or wait for it, in a kind that is not compatible."""
    users = [(other_key, other, other_kind) for other, other_key, other_kind in waits]
    return [
        other for other_key, other, other_kind in list(held) + users
        if other_key == key and other != deal and not are_compatible(kind, other_kind)
    ]


def lock_asked(locks, deal, key, kind):
    """The pair (granted, locks) after a deal that is not waiting has asked."""
    held, waits = locks
    if not is_lacking(held, deal, key, kind):
        return (True, locks)
    if len(in_the_way(held, waits, deal, key, kind)) > 0:
        return (False, (held, waits + ((deal, key, kind),)))
    return (True, (held_also(held, deal, key, kind), waits))


def held_also(held, deal, key, kind):
    """What is held after a grant; "write" replaces "read"."""
    others = [hold for hold in held if hold[:2] != (key, deal)]
    return tuple(sorted(others + [(key, deal, kind)]))


def lock_freed(locks, deal):
    """The pair (locks, granted) after a deal holds and waits for nothing any more."""
    held = tuple([hold for hold in locks[0] if hold[1] != deal])
    waits = tuple([wait for wait in locks[1] if wait[0] != deal])
    granted = ()
    at = first_granted(held, waits)
    while at is not None:
        waiting, key, kind = waits[at]
        held = held_also(held, waiting, key, kind)
        waits = waits[:at] + waits[at + 1:]
        granted = granted + (waiting,)
        at = first_granted(held, waits)
    return ((held, waits), granted)


def first_granted(held, waits):
    """The position of the first wait that can be granted; None if there is none."""
    for at, (deal, key, kind) in enumerate(waits):
        if len(in_the_way(held, waits[:at], deal, key, kind)) == 0:
            return at
    return None


def web_of(locks):
    """The ascending tuple of the pairs (deal, other) of which the deal waits for the other one."""
    held, waits = locks
    return ascending([
        (deal, other) for at, (deal, key, kind) in enumerate(waits)
        for other in in_the_way(held, waits[:at], deal, key, kind)
    ])


def waited_for(locks, deal):
    """The ascending tuple of the deals for which a deal waits."""
    return tuple([other for waiting, other in web_of(locks) if waiting == deal])
