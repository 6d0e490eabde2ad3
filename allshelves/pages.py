"""Pages, and what rows do to them ([7.1], [7.2]). Nothing is checked here but forms."""

from allshelves.forms import ALPHABET, are_all, are_ascending, is_count, is_integer, is_tuple_of, is_word

MOST_PAGES = 8
CHANGES = ("write", "undo")
EMPTY_PAGE = (0, ())


def has_pages_form(thing):
    if not isinstance(thing, tuple) or not 1 <= len(thing) <= MOST_PAGES:
        return False
    return all([has_page_form(page, k, len(thing)) for k, page in enumerate(thing)])


def has_page_form(thing, k, many):
    """Whether any value is the page at the position k among so many pages."""
    if not is_tuple_of(thing, 2) or not is_count(thing[0]):
        return False
    if not are_all(thing[1], lambda pair: is_entry(pair, k, many)):
        return False
    return are_ascending([key for key, _ in thing[1]])


def is_entry(thing, k, many):
    """Whether any value is a pair (key, worth) of this page."""
    if not is_tuple_of(thing, 2) or not is_word(thing[0]) or not is_integer(thing[1]):
        return False
    return place_of(thing[0], many) == k


def place_of(key, many):
    """The position of a key's page among so many pages."""
    return sum([ALPHABET.index(letter) for letter in key]) % many


def blank_pages(many):
    return (EMPTY_PAGE,) * many


def worth_on(pages, key):
    return dict(pages[place_of(key, len(pages))][1]).get(key)


def entries_of(pages):
    """The ascending tuple of all pairs (key, worth)."""
    return tuple(sorted([pair for _, worths in pages for pair in worths]))


def row_done(pages, number, row):
    if row[0] not in CHANGES:
        return pages
    k = place_of(row[2], len(pages))
    last, worths = pages[k]
    if last >= number:
        return pages
    # The new worth is the last item in both kinds of row.
    page = (number, worths_with(worths, row[2], row[-1]))
    return pages[:k] + (page,) + pages[k + 1:]


def worths_with(worths, key, worth):
    others = [pair for pair in worths if pair[0] != key]
    return tuple(others) if worth is None else tuple(sorted(others + [(key, worth)]))


def rows_done(pages, rows):
    for at, row in enumerate(rows):
        pages = row_done(pages, at + 1, row)
    return pages


def pages_by(rows, lasts):
    """For each page, what the rows up to the number in lasts make of an empty one."""
    many = len(lasts)
    numbers = [0] * many
    worths = [{} for _ in lasts]
    for at, row in enumerate(rows):
        if row[0] in CHANGES:
            k = place_of(row[2], many)
            if at < lasts[k]:
                numbers[k] = at + 1
                worths[k][row[2]] = row[-1]
    return tuple([(numbers[k], entries_in(worths[k])) for k in range(many)])


def entries_in(worths):
    """The ascending tuple of the pairs of a dict that have a worth."""
    return tuple(sorted([(key, worth) for key, worth in worths.items() if worth is not None]))


def are_pages_by(pages, rows):
    """Whether each page is as the rows up to its last number make it ([13.3])."""
    return pages == pages_by(rows, [last for last, _ in pages])
