"""What can happen in a store ([10.2]), in stores with their logs read (see works).

Each function checks what it is passed besides the work, and raises as the
function of allshelves.stores that does the same. In a deal, at is the position
of one of its houses.
"""

from allshelves.desks import can_use, is_undone, is_up, is_waiting, rows_in, table_of, with_begin, with_end, with_fall
from allshelves.desks import with_flush, with_force, with_mark, with_read, with_rise, with_rows, with_write
from allshelves.disks import can_lose
from allshelves.errors import BadDeal, BadEvent, BadLost, BadNumber, BadPlace, BadWord, BadWorth
from allshelves.errors import Down, ShelfError, TooLate, Up
from allshelves.forms import ascending, is_integer, is_integer_in, is_tuple_of
from allshelves.logs import begin_of, rows_of_ending
from allshelves.moves import does_apply, end_of, letters_of, told_also
from allshelves.moves import seat_after_fall, seat_after_letter, seat_after_rule, seat_after_up
from allshelves.needs import need_word
from allshelves.pages import entries_of
from allshelves.rows import has_worth_form
from allshelves.seats import role_at
from allshelves.works import are_places, is_one_of, is_open_at, role_word, seat_in, with_desk, with_seat

FIRST_ROLE = (0, (), True, -1, True, ())


def need_deal(work, deal):
    if not is_integer_in(deal, 0, len(work[2]) - 1):
        raise BadDeal(deal)


def place_in(work, deal, house):
    """The position of a house in a deal."""
    need_deal(work, deal)
    houses = work[2][deal][0]
    if not is_one_of(house, houses):
        raise BadPlace(house)
    return houses.index(house)


def places_at(work, house):
    """The pairs (deal, at) of a house in all its deals."""
    return [(deal, houses.index(house)) for deal, (houses, _) in enumerate(work[2]) if house in houses]


def need_house(work, house):
    if not is_integer_in(house, 0, len(work[1]) - 1):
        raise BadPlace(house)


def need_house_up(work, house):
    need_house(work, house)
    if not is_up(work[1][house]):
        raise Down()


def house_at(work, deal, at):
    return work[2][deal][0][at]


def desk_at(work, deal, at):
    return work[1][house_at(work, deal, at)]


def state_at(work, deal, at):
    return work[2][deal][1][at][0]


def end_at(work, deal, at):
    """The end of the state of a house that is up in the deal, "" if it has none."""
    return end_of(role_at(work[0], at), state_at(work, deal, at))


def deal_opened(work, houses):
    if not are_places(houses, len(work[1])):
        raise BadPlace(houses)
    if not all([is_up(work[1][house]) for house in houses]):
        raise Down()
    protocol, desks, deals, sent, past = work
    deal, many = len(deals), len(houses)
    work = (protocol, desks, deals + ((houses, (FIRST_ROLE,) * many),), sent, past)
    for at in range(many):
        work = with_deal_begun(work, deal, at, True)
    for at in range(many):
        seat = seat_in(work, deal, at)
        told = told_also(seat[7], end_at(work, deal, at))
        work = ended_if_due(with_seat(work, deal, at, seat[:7] + (told,)), deal, at)
    return work


def with_deal_begun(work, deal, at, able):
    houses = work[2][deal][0]
    row = ("begin", deal, role_word(houses, houses[at]), houses)
    return with_desk(work, houses[at], with_begin(desk_at(work, deal, at), row, able))


def end_due(work, deal, at):
    """The end with which the deal is to be ended at a house that came to a state, "" for none."""
    end = end_at(work, deal, at)
    if end == "" or not is_open_at(work, deal, house_at(work, deal, at)):
        return ""
    return "dropped" if is_undone(desk_at(work, deal, at), deal) else end


def rows_due(work, deal, at):
    """The rows of the ending that is due at a house, none if none is due."""
    end = end_due(work, deal, at)
    return [] if end == "" else rows_of_ending(rows_in(desk_at(work, deal, at)), deal, end)


def ended_if_due(work, deal, at):
    end = end_due(work, deal, at)
    if end == "":
        return work
    return with_desk(work, house_at(work, deal, at), with_end(desk_at(work, deal, at), deal, end)[0])


def need_in_time(work, deal, at):
    _, _, _, said, _, _ = work[2][deal][1][at]
    if state_at(work, deal, at) == -1 or said != -1 or end_at(work, deal, at) != "":
        raise TooLate(deal)
    if not can_use(desk_at(work, deal, at), deal):
        raise TooLate(deal)


def key_read(work, deal, house, key):
    """The pair (work, answer)."""
    at = place_in(work, deal, house)
    need_word(key)
    need_in_time(work, deal, at)
    desk, answer = with_read(work[1][house], deal, key)
    return (with_use(with_desk(work, house, desk), ("read", deal, house, key), answer), answer)


def key_written(work, deal, house, key, worth):
    """The pair (work, answer)."""
    at = place_in(work, deal, house)
    need_word(key)
    if not has_worth_form(worth):
        raise BadWorth(worth)
    need_in_time(work, deal, at)
    desk, answer = with_write(work[1][house], deal, key, worth)
    return (with_use(with_desk(work, house, desk), ("write", deal, house, key), answer), answer)


def with_use(work, use, answer):
    """The work with a read or write, if it was allowed, in its past."""
    if answer[0] == "waits":
        return work
    protocol, desks, deals, sent, past = work
    return (protocol, desks, deals, sent, past + (use + (answer[1],),))


def rules_at(work, deal, at):
    """The rules that can be fired for a deal at one of its houses."""
    houses = work[2][deal][0]
    state = state_at(work, deal, at)
    if state == -1:
        return []
    seat = seat_in(work, deal, at)
    waits = is_waiting(desk_at(work, deal, at), deal)
    return [
        r for r, rule in enumerate(role_at(work[0], at)[0][state][1])
        if does_apply(rule[0], len(houses), at, seat) and not (waits and rule[0] == ("able",))
    ]


def rule_fired(work, deal, house, r):
    return ended_if_due(rule_begun(work, deal, house, r), deal, place_in(work, deal, house))


def rule_begun(work, deal, house, r):
    """The work after a rule, but for the ending that it causes."""
    at = place_in(work, deal, house)
    if not is_integer(r) or r not in rules_at(work, deal, at):
        raise BadNumber(r)
    role, seat = role_at(work[0], at), seat_in(work, deal, at)
    rule = role[0][seat[0]][1][r]
    work = with_rule_marked(work, deal, at, rule)
    protocol, desks, deals, sent, past = work
    letters = [(deal,) + letter for letter in letters_of(rule, len(deals[deal][0]), at)]
    work = (protocol, desks, deals, ascending(sent + tuple(letters)), past)
    return with_seat(work, deal, at, seat_after_rule(role, seat, rule))


def with_rule_marked(work, deal, at, rule):
    """The work after the mark of a rule, if it has one, was written, and forced if it is to be."""
    mark, is_forced = rule[1:3]
    if mark == "":
        return work
    # A fall can have lost the "begin" row, and then all rows of the deal.
    if begin_of(rows_in(desk_at(work, deal, at)), deal) is None:
        work = with_deal_begun(work, deal, at, False)
    return with_desk(work, house_at(work, deal, at), with_mark(desk_at(work, deal, at), deal, mark, is_forced))


def letter_heard(work, deal, house, sender, kind):
    at = place_in(work, deal, house)
    start = place_in(work, deal, sender)
    seat = seat_in(work, deal, at)
    if seat[0] == -1 or (deal, start, at, kind) not in work[3] or (start, kind) in seat[1]:
        raise BadWord(kind)
    return with_seat(work, deal, at, seat_after_letter(seat, (start, kind)))


def house_fallen(work, house, lost):
    need_house_up(work, house)
    need_lost(work, house, lost)
    return with_house_down(work, house, lost)


def need_lost(work, house, lost):
    if not can_lose(work[1][house][0][0], lost):
        raise BadLost(lost)


def with_house_down(work, house, lost):
    work = with_desk(work, house, with_fall(work[1][house], lost))
    for deal, at in places_at(work, house):
        # While a house comes up, it is down in the deals whose turn has not come.
        if state_at(work, deal, at) != -1:
            seat = seat_in(work, deal, at)
            work = with_seat(work, deal, at, seat_after_fall(seat, len(seat[2])))
    return work


def house_risen(work, house):
    work = rise_begun(work, house)
    for deal, at in places_at(work, house):
        work = ended_if_due(with_role_up(work, deal, at), deal, at)
    return work


def rise_begun(work, house):
    """The work after a house has come up, but in none of its deals."""
    need_house(work, house)
    if is_up(work[1][house]):
        raise Up()
    return with_desk(work, house, with_rise(work[1][house]))


def with_role_up(work, deal, at):
    return with_seat(work, deal, at, seat_after_up(role_at(work[0], at), seat_in(work, deal, at)))


def cut_amid(work, thing, k, lost):
    work = work_amid(work, thing, k)
    house = house_amid(thing)
    need_lost(work, house, lost)
    return with_house_down(work, house, lost)


def house_amid(thing):
    return thing[1] if thing[0] == "up" else thing[2]


def work_amid(work, thing, k):
    """The work just before the fall that cuts a thing after k rows of its endings."""
    work = amid_begun(work, thing)
    if not is_integer_in(k, 0, many_rows_amid(work, thing)):
        raise BadNumber(k)
    house = house_amid(thing)
    for deal, at in places_amid(work, thing):
        work = with_role_amid(work, thing, deal, at)
        rows = rows_due(work, deal, at)
        if len(rows) > 0 and k <= len(rows):
            return with_desk(work, house, with_rows(work[1][house], rows[:k]))
        work = ended_if_due(work, deal, at)
        k -= len(rows)
    return work


def amid_begun(work, thing):
    """The work after a rule, or after a house has come up, but for any ending."""
    try:
        if is_tuple_of(thing, 4) and thing[0] == "fire":
            _, deal, house, r = thing
            return rule_begun(work, deal, house, r)
        if is_tuple_of(thing, 2) and thing[0] == "up":
            return rise_begun(work, thing[1])
    except ShelfError:
        pass
    raise BadEvent(thing)


def places_amid(work, thing):
    """The pairs (deal, at) that can have an ending by a rule or a coming up, in order."""
    if thing[0] == "up":
        return places_at(work, thing[1])
    return [(thing[1], place_in(work, thing[1], thing[2]))]


def with_role_amid(work, thing, deal, at):
    return with_role_up(work, deal, at) if thing[0] == "up" else work


def many_rows_amid(work, thing):
    """The number of the rows of all endings; none changes the rows of another one."""
    many = 0
    for deal, at in places_amid(work, thing):
        many += len(rows_due(with_role_amid(work, thing, deal, at), deal, at))
    return many


def page_flushed(work, house, k):
    need_house_up(work, house)
    desk = work[1][house]
    if not is_integer_in(k, 0, len(desk[0][1]) - 1):
        raise BadNumber(k)
    return with_desk(work, house, with_flush(desk, k))


def house_forced(work, house):
    need_house_up(work, house)
    return with_desk(work, house, with_force(work[1][house]))


def worths_in(work, house):
    """The pairs (key, worth) on the table of a house; of one that is down, as after its coming up."""
    if not is_up(work[1][house]):
        work = house_risen(work, house)
    return entries_of(table_of(work[1][house]))
