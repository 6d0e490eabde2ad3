"""Houses with their logs read ([9.1] to [9.4]). Nothing is checked here but forms.

A desk is a pair (house, log): a house, and what log_on makes of its sectors, so
that the log is not read again for each thing that the house does.
"""

from allshelves.disks import is_device, length_with, log_on, sectors_with, without
from allshelves.forms import are_all, are_ascending, is_count, is_tuple_of
from allshelves.grants import does_wait, has_locks_form, kind_held, lock_asked, lock_freed, waited_for
from allshelves.logs import LogReader, begin_of, keys_used, last_mark_in, marks_in_log, rows_of, rows_of_ending
from allshelves.pages import are_pages_by, blank_pages, has_pages_form, row_done, rows_done, worth_on
from allshelves.rows import text_with


def has_house_form(thing):
    if not is_tuple_of(thing, 3):
        return False
    device, pages, run = thing
    return is_device(device) and has_pages_form(pages) and (run is None or has_run_form(run))


def has_run_form(thing):
    if not is_tuple_of(thing, 3):
        return False
    table, locks, deals = thing
    if not has_pages_form(table) or not has_locks_form(locks) or not are_all(deals, is_open_deal):
        return False
    return are_ascending([deal for deal, _ in deals])


def is_open_deal(thing):
    return is_tuple_of(thing, 2) and is_count(thing[0]) and isinstance(thing[1], bool)


def house_read(thing):
    """The pair (desk, reader of its log) of any value, or None if it is no house."""
    if not has_house_form(thing):
        return None
    device, pages, run = thing
    log = log_on(device[0])
    reader = LogReader(None, None)
    if reader.take_all(log[0]) > 0 or not are_pages_by(pages, log[0]) or not are_rows_safe(pages, log, device[1]):
        return None
    if run is not None and not is_run_right((thing, log), reader):
        return None
    return ((thing, log), reader)


def are_rows_safe(pages, log, safe):
    """Whether all sectors of the rows up to the last number of each page are safe."""
    return all([last == 0 or log[1][last - 1] <= safe for last, _ in pages])


def is_run_right(desk, reader):
    """Whether the run of a house that is up is what its log asks for."""
    ((sectors, _), pages, (table, locks, deals)), log = desk
    return (
        length_with(log) == len(sectors)
        and table == rows_done(pages, log[0])
        and [deal for deal, _ in deals] == reader.deals_open()
        and are_locks_right(locks, dict(deals), reader)
    )


def are_locks_right(locks, ables, reader):
    """Whether the locks are those of open deals; ables has for each of them whether it is able."""
    held, waits = locks
    if not all([deal in ables for _, deal, _ in held]):
        return False
    if not all([ables.get(deal, False) for deal, _, _ in waits]):
        return False
    if any([able and reader.deals[deal].is_undone for deal, able in ables.items()]):
        return False
    uses = [(deal, key, kind) for deal in ables for key, kind in reader.deals[deal].uses.items()]
    return all([kind_held(held, deal, key) in (kind, "write") for deal, key, kind in uses])


def new_desk(many):
    pages = blank_pages(many)
    return ((((), 0), pages, (pages, ((), ()), ())), ((), ()))


def is_up(desk):
    return desk[0][2] is not None


def rows_in(desk):
    return desk[1][0]


def table_of(desk):
    """The table of a house that is up."""
    return desk[0][2][0]


def locks_of(desk):
    """The locks of a house that is up."""
    return desk[0][2][1]


def ables_of(desk):
    """For each deal that is open at a house that is up, whether it is able, as a dict."""
    return dict(desk[0][2][2])


def is_waiting(desk, deal):
    return is_up(desk) and does_wait(locks_of(desk), deal)


def can_use(desk, deal):
    """Whether the deal may read and write at a house that is up."""
    if not ables_of(desk).get(deal, False) or is_waiting(desk, deal):
        return False
    return marks_in_log(rows_in(desk), deal) == ()


def with_row(desk, row):
    """The desk after a row was written and done."""
    ((sectors, safe), pages, (table, locks, deals)), (rows, ends) = desk
    sectors = sectors + sectors_with(text_with(row))
    rows = rows + (row,)
    table = row_done(table, len(rows), row)
    return (((sectors, safe), pages, (table, locks, deals)), (rows, ends + (len(sectors),)))


def with_rows(desk, rows):
    for row in rows:
        desk = with_row(desk, row)
    return desk


def with_run(desk, run):
    (device, pages, _), log = desk
    return ((device, pages, run), log)


def with_force(desk):
    ((sectors, _), pages, run), log = desk
    return (((sectors, len(sectors)), pages, run), log)


def with_begin(desk, row, able):
    """The desk after a "begin" row was written, so that its deal is open."""
    desk = with_row(desk, row)
    table, locks, deals = desk[0][2]
    return with_run(desk, (table, locks, tuple(sorted(deals + ((row[1], able),)))))


def with_ask(desk, deal, key, kind):
    """The pair (granted, desk) after a deal has asked for a key."""
    table, locks, deals = desk[0][2]
    granted, locks = lock_asked(locks, deal, key, kind)
    return (granted, with_run(desk, (table, locks, deals)))


def with_read(desk, deal, key):
    """The pair (desk, answer) after a deal that may read has asked for it."""
    granted, desk = with_ask(desk, deal, key, "read")
    if not granted:
        return (desk, ("waits", waited_for(locks_of(desk), deal)))
    if key not in keys_used(rows_in(desk), deal):
        desk = with_row(desk, ("read", deal, key))
    return (desk, ("worth", worth_on(table_of(desk), key)))


def with_write(desk, deal, key, worth):
    """The pair (desk, answer) after a deal that may write has asked for it."""
    granted, desk = with_ask(desk, deal, key, "write")
    if not granted:
        return (desk, ("waits", waited_for(locks_of(desk), deal)))
    desk = with_row(desk, ("write", deal, key, worth_on(table_of(desk), key), worth))
    return (desk, ("worth", worth))


def with_mark(desk, deal, mark, is_forced):
    if mark not in marks_in_log(rows_in(desk), deal):
        desk = with_row(desk, ("mark", deal, mark))
    return with_force(desk) if is_forced else desk


def is_undone(desk, deal):
    """Whether the log has an "undo" row of the deal."""
    return len(rows_of(rows_in(desk), deal, "undo")) > 0


def with_end(desk, deal, end):
    """The pair (desk, granted) after an open deal has ended."""
    desk = with_force(with_rows(desk, rows_of_ending(rows_in(desk), deal, end)))
    table, locks, deals = desk[0][2]
    locks, granted = lock_freed(locks, deal)
    left = tuple([pair for pair in deals if pair[0] != deal])
    return (with_run(desk, (table, locks, left)), granted)


def with_flush(desk, k):
    (device, pages, run), log = with_force(desk)
    return ((device, pages[:k] + (run[0][k],) + pages[k + 1:], run), log)


def with_fall(desk, lost):
    (device, pages, _), _ = desk
    sectors = without(device[0], lost)
    log = log_on(sectors)
    return (((sectors, length_with(log)), pages, None), log)


def with_rise(desk):
    """The desk of a house that was down, after it has come up."""
    ((sectors, _), pages, _), log = desk
    length = length_with(log)
    reader = LogReader(None, None)
    reader.take_all(log[0])
    deals = reader.deals_open()
    held = [(key, deal, kind) for deal in deals for key, kind in reader.deals[deal].uses.items()]
    run = (rows_done(pages, log[0]), (tuple(sorted(held)), ()), tuple([(deal, False) for deal in deals]))
    return (((sectors[:length], length), pages, run), log)


def deals_at(desk):
    """The ascending tuple of (deal, role, houses, last mark, able) of the open deals."""
    if not is_up(desk):
        desk = with_rise(desk)
    rows = rows_in(desk)
    return tuple([
        begin_of(rows, deal)[1:] + (last_mark_in(rows, deal), able) for deal, able in desk[0][2][2]
    ])
