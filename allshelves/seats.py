"""The form of standings ([2.1]); a seat is the tuple of one house in a standing."""

from allshelves.forms import are_ascending, is_integer_in, is_tuple_of
from allshelves.roles import kinds_in, marks_in

TOLDS = ((), ("dropped",), ("kept",), ("dropped", "kept"))


def role_at(protocol, h):
    """The role of a house of a deal."""
    return protocol[0] if h == 0 else protocol[1]


def has_standing_form(protocol, n, thing):
    if not is_tuple_of(thing, 2) or not is_tuple_of(thing[0], n):
        return False
    seats, sent = thing
    kinds = kinds_in(protocol)
    if not all([has_seat_form(role_at(protocol, h), n, h, kinds, seats[h]) for h in range(n)]):
        return False
    return has_sent_form(sent, n, kinds)


def has_seat_form(role, n, h, kinds, thing):
    if not is_tuple_of(thing, 8):
        return False
    state, heard, log, forced, able, said, whole, told = thing
    marks = marks_in(role[0])
    return (
        is_integer_in(state, -1, len(role[0]) - 1)
        and has_heard_form(heard, n, h, kinds)
        and has_log_form(log, marks)
        and is_integer_in(forced, 0, len(log))
        and isinstance(able, bool)
        and is_integer_in(said, -1, len(marks))
        and isinstance(whole, bool)
        and told in TOLDS
        and (state != -1 or (heard == () and forced == len(log) and not able))
    )


def has_heard_form(thing, n, h, kinds):
    if not isinstance(thing, tuple):
        return False
    return all([is_heard_by(pair, n, h, kinds) for pair in thing]) and are_ascending(thing)


def is_heard_by(thing, n, h, kinds):
    """Whether any value is a pair that the house h can have heard."""
    if not is_tuple_of(thing, 2) or not is_integer_in(thing[0], 0, n - 1):
        return False
    return thing[0] != h and thing[1] in kinds


def has_log_form(thing, marks):
    if not isinstance(thing, tuple) or not all([mark in marks for mark in thing]):
        return False
    return len(set(thing)) == len(thing)


def has_sent_form(thing, n, kinds):
    if not isinstance(thing, tuple):
        return False
    return all([is_sent_letter(letter, n, kinds) for letter in thing]) and are_ascending(thing)


def is_sent_letter(thing, n, kinds):
    """Whether any value is a letter that a house can have sent to another one."""
    if not is_tuple_of(thing, 3) or not is_integer_in(thing[1], 0, n - 1):
        return False
    return is_heard_by((thing[0], thing[2]), n, thing[1], kinds)
