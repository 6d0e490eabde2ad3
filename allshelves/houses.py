"""A house: its disk, and what it does while it is up (part 9)."""

from allshelves.desks import ables_of, can_use, deals_at, house_read, is_undone, is_up, new_desk, rows_in, with_begin
from allshelves.desks import with_end, with_fall, with_flush, with_mark, with_read, with_rise, with_rows, with_write
from allshelves.disks import can_lose
from allshelves.errors import BadBool, BadDeal, BadEnd, BadHouse, BadLost, BadNumber, BadRow, BadWorth, Down, Up
from allshelves.forms import is_count, is_integer_in
from allshelves.logs import begin_of, last_mark_in, rows_of_ending
from allshelves.needs import need_many, need_word
from allshelves.rows import ROW_ENDS, has_row_form, has_worth_form


def new_house(many):
    need_many(many)
    return new_desk(many)[0]


def is_house(thing):
    return house_read(thing) is not None


def desk_of(house):
    """The house with its log read."""
    read = house_read(house)
    if read is None:
        raise BadHouse(house)
    return read[0]


def desk_up(house):
    """A house that is up, with its log read."""
    desk = desk_of(house)
    if not is_up(desk):
        raise Down()
    return desk


def desk_used(house, deal, key):
    """A house that is up, with its log read, at which the deal may use a key."""
    desk = desk_up(house)
    if not is_count(deal) or not can_use(desk, deal):
        raise BadDeal(deal)
    need_word(key)
    return desk


def begun(house, deal, role, houses):
    desk = desk_up(house)
    if not is_count(deal) or begin_of(rows_in(desk), deal) is not None:
        raise BadDeal(deal)
    row = ("begin", deal, role, houses)
    if not has_row_form(row):
        raise BadRow(row)
    return with_begin(desk, row, True)[0]


def read_at(house, deal, key):
    desk, answer = with_read(desk_used(house, deal, key), deal, key)
    return (desk[0], answer)


def write_at(house, deal, key, worth):
    desk = desk_used(house, deal, key)
    if not has_worth_form(worth):
        raise BadWorth(worth)
    desk, answer = with_write(desk, deal, key, worth)
    return (desk[0], answer)


def marked(house, deal, mark, is_forced):
    desk = desk_up(house)
    if not is_count(deal) or begin_of(rows_in(desk), deal) is None:
        raise BadDeal(deal)
    need_word(mark)
    if not isinstance(is_forced, bool):
        raise BadBool(is_forced)
    return with_mark(desk, deal, mark, is_forced)[0]


def desk_ending(house, deal, end):
    """A house that is up, with its log read, at which the deal can have the end."""
    desk = desk_up(house)
    if not is_count(deal) or deal not in ables_of(desk):
        raise BadDeal(deal)
    if end not in ROW_ENDS or (end == "kept" and is_undone(desk, deal)):
        raise BadEnd(end)
    return desk


def ended(house, deal, end):
    desk, granted = with_end(desk_ending(house, deal, end), deal, end)
    return (desk[0], granted)


def ended_amid(house, deal, end, k, lost):
    desk = desk_ending(house, deal, end)
    rows = rows_of_ending(rows_in(desk), deal, end)
    if not is_integer_in(k, 0, len(rows)):
        raise BadNumber(k)
    return fallen_desk(with_rows(desk, rows[:k]), lost)


def fallen_desk(desk, lost):
    """The house after its fall."""
    if not can_lose(desk[0][0], lost):
        raise BadLost(lost)
    return with_fall(desk, lost)[0]


def flushed(house, k):
    desk = desk_up(house)
    if not is_integer_in(k, 0, len(house[1]) - 1):
        raise BadNumber(k)
    return with_flush(desk, k)[0]


def fallen(house, lost):
    return fallen_desk(desk_up(house), lost)


def come_up(house):
    desk = desk_of(house)
    if is_up(desk):
        raise Up()
    return with_rise(desk)[0]


def open_deals(house):
    return deals_at(desk_of(house))


def last_mark(house, deal):
    rows = rows_in(desk_of(house))
    if not is_count(deal) or begin_of(rows, deal) is None:
        raise BadDeal(deal)
    return last_mark_in(rows, deal)
