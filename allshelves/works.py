"""Stores with their logs read ([10.1], [10.3]). Nothing is checked here but forms.

A work is a tuple (protocol, desks, deals, sent, past): a store in which each
house is a desk, that is, has what its log says with it.
"""

from allshelves.desks import house_read, is_up, new_desk
from allshelves.forms import are_all, are_ascending, is_integer, is_integer_in, is_tuple_of, is_word
from allshelves.roles import has_protocol_form
from allshelves.rows import FEWEST_HOUSES, MOST_HOUSES, ROW_ENDS, has_houses_form, has_worth_form
from allshelves.seats import has_standing_form


def new_work(protocol, n, many):
    return (protocol, (new_desk(many),) * n, (), (), ())


def store_of(work):
    protocol, desks, deals, sent, past = work
    return (protocol, tuple([house for house, _ in desks]), deals, sent, past)


def work_read(thing):
    """Any value as a work; None if it is no store."""
    if not is_tuple_of(thing, 5) or not has_protocol_form(thing[0]):
        return None
    protocol, houses, deals, sent, past = thing
    if not isinstance(houses, tuple) or not FEWEST_HOUSES <= len(houses) <= MOST_HOUSES:
        return None
    reads = [house_read(house) for house in houses]
    if any([read is None for read in reads]):
        return None
    many = len(houses)
    if not are_all(deals, lambda deal: has_deal_form(deal, many)) or not have_deals(sent, deals):
        return None
    work = (protocol, tuple([desk for desk, _ in reads]), deals, sent, past)
    if not are_deals_right(work) or not are_ascending(sent):
        return None
    if not all([is_log_right(reader, h, deals) for h, (_, reader) in enumerate(reads)]):
        return None
    return work if is_past_right(past, deals) else None


def has_deal_form(thing, many):
    """Whether any value has the form of a deal of a store with so many houses, but for its roles."""
    if not is_tuple_of(thing, 2) or not are_places(thing[0], many):
        return False
    return is_tuple_of(thing[1], len(thing[0])) and all([is_tuple_of(role, 6) for role in thing[1]])


def are_places(thing, many):
    """Whether any value is a tuple of two to four different houses among so many."""
    return has_houses_form(thing) and all([house < many for house in thing])


def have_deals(thing, deals):
    """Whether any value is a tuple of tuples (deal, from, to, kind), with some of these deals."""
    return are_all(thing, lambda letter: is_tuple_of(letter, 4) and is_integer_in(letter[0], 0, len(deals) - 1))


def are_deals_right(work):
    """Whether the standings have their form, and just the roles of houses that are down are down."""
    protocol, desks, deals = work[:3]
    for deal, (houses, roles) in enumerate(deals):
        if not has_standing_form(protocol, len(houses), standing_in(work, deal)):
            return False
        if not all([(role[0] == -1) != is_up(desks[house]) for house, role in zip(houses, roles)]):
            return False
    return True


def is_log_right(reader, h, deals):
    """Whether the log of the house h has only rows of its deals, begun as they are."""
    for deal, own in reader.deals.items():
        if deal >= len(deals) or own.all_houses != deals[deal][0] or h not in own.all_houses:
            return False
        if own.role != role_word(own.all_houses, h):
            return False
    return True


def role_word(houses, house):
    return "leader" if houses[0] == house else "member"


def is_past_right(past, deals):
    if not are_all(past, lambda event: is_event(event, deals)):
        return False
    told = [event[1:] for event in past if event[0] == "told"]
    wanted = [
        (deal, house, end) for deal, (houses, roles) in enumerate(deals)
        for house, role in zip(houses, roles) for end in role[5]
    ]
    return sorted(told) == sorted(wanted)


def is_event(thing, deals):
    """Whether any value is something that can be in the past of a store with these deals."""
    if not isinstance(thing, tuple) or len(thing) not in (4, 5):
        return False
    if not is_integer_in(thing[1], 0, len(deals) - 1) or not is_one_of(thing[2], deals[thing[1]][0]):
        return False
    if len(thing) == 4:
        return thing[0] == "told" and thing[3] in ROW_ENDS
    return thing[0] in ("read", "write") and is_word(thing[3]) and has_worth_form(thing[4])


def is_one_of(thing, houses):
    return is_integer(thing) and thing in houses


def seat_in(work, deal, at):
    """The seat of a house of a deal, by its position in the deal ([10.3])."""
    houses, roles = work[2][deal]
    state, heard, able, said, whole, told = roles[at]
    ((_, safe), _, _), (rows, ends) = work[1][houses[at]]
    marks = [(row[2], end) for row, end in zip(rows, ends) if row[0] == "mark" and row[1] == deal]
    many_safe = len([end for _, end in marks if end <= safe])
    return (state, heard, tuple([mark for mark, _ in marks]), many_safe, able, said, whole, told)


def standing_in(work, deal):
    many = len(work[2][deal][0])
    letters = [letter[1:] for letter in work[3] if letter[0] == deal]
    return (tuple([seat_in(work, deal, at) for at in range(many)]), tuple(letters))


def is_open_at(work, deal, house):
    """Whether the deal is open at a house that is up."""
    desk = work[1][house]
    return is_up(desk) and deal in [one for one, _ in desk[0][2][2]]


def with_desk(work, house, desk):
    protocol, desks, deals, sent, past = work
    return (protocol, desks[:house] + (desk,) + desks[house + 1:], deals, sent, past)


def with_seat(work, deal, at, seat):
    """The work after a house of a deal has come to a seat, with what is told by it in the past."""
    protocol, desks, deals, sent, past = work
    houses, roles = deals[deal]
    state, heard, _, _, able, said, whole, told = seat
    new = [("told", deal, houses[at], end) for end in told if end not in roles[at][5]]
    roles = roles[:at] + ((state, heard, able, said, whole, told),) + roles[at + 1:]
    deals = deals[:deal] + ((houses, roles),) + deals[deal + 1:]
    return (protocol, desks, deals, sent, past + tuple(new))
