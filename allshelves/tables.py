"""Tables on pages (part 7)."""

from allshelves.errors import BadNumber, BadPages, BadRow, BadRows
from allshelves.forms import are_all, is_integer
from allshelves.needs import need_many, need_word
from allshelves.pages import blank_pages, entries_of, has_pages_form, place_of, row_done, rows_done, worth_on
from allshelves.rows import has_row_form


def are_pages(thing):
    return has_pages_form(thing)


def need_pages(pages):
    if not has_pages_form(pages):
        raise BadPages(pages)


def need_rows(rows):
    if not are_all(rows, has_row_form):
        raise BadRows(rows)


def empty_pages(many):
    need_many(many)
    return blank_pages(many)


def page_of(key, many):
    need_word(key)
    need_many(many)
    return place_of(key, many)


def worth_of(pages, key):
    need_pages(pages)
    need_word(key)
    return worth_on(pages, key)


def worths_on(pages):
    need_pages(pages)
    return entries_of(pages)


def done(pages, number, row):
    need_pages(pages)
    if not is_integer(number) or number < 1:
        raise BadNumber(number)
    if not has_row_form(row):
        raise BadRow(row)
    return row_done(pages, number, row)


def all_done(pages, rows):
    need_pages(pages)
    need_rows(rows)
    return rows_done(pages, rows)


def worths_by(rows):
    need_rows(rows)
    return entries_of(rows_done(blank_pages(1), rows))
