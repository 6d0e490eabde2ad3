"""What is valid, read off parts 7 to 13 of the document line by line, slow and plain."""

import re

from allshelves.disks import is_device, log_of, sectors_of
from allshelves.protocols import is_protocol, marks_of
from allshelves.standings import is_standing


def is_int(thing, low=None, high=None):
    return type(thing) is int and (low is None or thing >= low) and (high is None or thing <= high)


def is_word(thing):
    return type(thing) is str and re.fullmatch("[a-z]{1,10}", thing, re.ASCII) is not None


def is_worth(thing):
    return thing is None or is_int(thing)


def tuples(thing, size, many=None):
    """Whether a value is a tuple (of so many) tuples of this size."""
    if type(thing) is not tuple or (many is not None and len(thing) != many):
        return False
    return all(type(item) is tuple and len(item) == size for item in thing)


def is_sorted(items):
    return list(items) == sorted(set(items))


def place(key, many):
    return sum(ord(letter) - 97 for letter in key) % many


def pages_valid(thing):
    if not tuples(thing, 2) or not 1 <= len(thing) <= 8:
        return False
    for k, (last, worths) in enumerate(thing):
        if not is_int(last, 0) or not tuples(worths, 2):
            return False
        if not all(is_word(key) and is_int(worth) and place(key, len(thing)) == k for key, worth in worths):
            return False
        if not is_sorted([key for key, _ in worths]):
            return False
    return True


def locks_valid(thing):
    if type(thing) is not tuple or len(thing) != 2 or not tuples(thing[0], 3) or not tuples(thing[1], 3):
        return False
    held, waits = thing
    for deal, key, kind in [(deal, key, kind) for key, deal, kind in held] + list(waits):
        if not is_int(deal, 0) or not is_word(key) or not (type(kind) is str and kind in ("read", "write")):
            return False
    if not is_sorted(held) or len({hold[:2] for hold in held}) < len(held) or len({wait[0] for wait in waits}) < len(waits):
        return False
    for key, deal, kind in held:
        for other_key, other, other_kind in held:
            if key == other_key and deal != other and "write" in (kind, other_kind):
                return False
    for deal, key, kind in waits:
        own = [hold[2] for hold in held if hold[:2] == (key, deal)]
        if own and not (own == ["read"] and kind == "write"):
            return False
    return True


def worths_of(rows):
    worths = {}
    for row in rows:
        if row[0] == "write":
            worths[row[2]] = row[4]
        if row[0] == "undo":
            worths[row[2]] = row[3]
    return {key: worth for key, worth in worths.items() if worth is not None}


def can_stand(row, earlier, h=None, protocol=None):
    """[13.2]; h and the protocol are left out where they do not matter."""
    own = [other for other in earlier if other[1] == row[1]]
    words = [other[0] for other in own]
    if row[0] == "begin":
        if own:
            return False
        return h is None or (h in row[3] and (row[2] == "leader") == (row[3][0] == h))
    if "begin" not in words:
        return False
    if row[0] == "mark":
        if protocol is not None:
            role = protocol[0] if own[words.index("begin")][2] == "leader" else protocol[1]
            if row[2] not in marks_of(role):
                return False
        return row not in own
    if "end" in words:
        return False
    writes = [other for other in own if other[0] == "write"]
    many_left = len(writes) - words.count("undo")
    if row[0] == "undo":
        return many_left > 0 and writes[many_left - 1][2:4] == row[2:4]
    if row[0] == "end":
        return "undo" not in words if row[2] == "kept" else many_left == 0
    if "mark" in words or "undo" in words:
        return False
    ended = [other[1] for other in earlier if other[0] == "end"]
    others = [other for other in earlier if other[1] != row[1] and other[1] not in ended and other[0] in ("read", "write")]
    clashing = [other for other in others if other[2] == row[2] and "write" in (other[0], row[0])]
    if clashing:
        return False
    if row[0] == "write":
        return worths_of(earlier).get(row[2]) == row[3]
    return not [other for other in own if other[0] in ("read", "write", "undo") and other[2] == row[2]]


def first_wrong(rows, h=None, protocol=None):
    """The number of the first row that cannot stand, None if all can."""
    for at, row in enumerate(rows):
        if not can_stand(row, rows[:at], h, protocol):
            return at + 1
    return None


def page_right(page, k, many, rows):
    last, worths = page
    if last > len(rows):
        return False
    if last > 0 and not (rows[last - 1][0] in ("write", "undo") and place(rows[last - 1][2], many) == k):
        return False
    return dict(worths) == {key: worth for key, worth in worths_of(rows[:last]).items() if place(key, many) == k}


def house_valid(thing):
    if type(thing) is not tuple or len(thing) != 3 or not is_device(thing[0]) or not pages_valid(thing[1]):
        return False
    device, pages, run = thing
    rows = log_of(device)
    if first_wrong(rows) is not None or not all(page_right(page, k, len(pages), rows) for k, page in enumerate(pages)):
        return False
    if any(sum(len(sectors_of(row)) for row in rows[:last]) > device[1] for last, _ in pages):
        return False
    return run is None or run_valid(run, device, pages, rows)


def run_valid(run, device, pages, rows):
    if type(run) is not tuple or len(run) != 3 or not pages_valid(run[0]) or not locks_valid(run[1]) or not tuples(run[2], 2):
        return False
    table, (held, waits), deals = run
    if not all(is_int(deal, 0) and type(able) is bool for deal, able in deals):
        return False
    if sum(len(sectors_of(row)) for row in rows) != len(device[0]):
        return False
    changes = [(number, place(row[2], len(pages))) for number, row in enumerate(rows, 1) if row[0] in ("write", "undo")]
    for k, (last, worths) in enumerate(table):
        if len(table) != len(pages) or last != max([number for number, page in changes if page == k], default=0):
            return False
        if dict(worths) != {key: worth for key, worth in worths_of(rows).items() if place(key, len(pages)) == k}:
            return False
    ended = [row[1] for row in rows if row[0] == "end"]
    begun = sorted(row[1] for row in rows if row[0] == "begin" and row[1] not in ended)
    if [deal for deal, _ in deals] != begun:
        return False
    ables = dict(deals)
    for row in rows:
        if row[1] in ables and row[0] in ("read", "write"):
            kinds = [kind for key, deal, kind in held if (key, deal) == (row[2], row[1])]
            if not kinds or (row[0] == "write" and kinds != ["write"]):
                return False
        if row[0] == "undo" and ables.get(row[1]):
            return False
    return all(deal in ables for _, deal, _ in held) and all(ables.get(deal) for deal, _, _ in waits)


def places_valid(thing, many):
    if type(thing) is not tuple or not 2 <= len(thing) <= 4 or not all(is_int(house, 0, many - 1) for house in thing):
        return False
    return len(set(thing)) == len(thing)


def store_valid(thing):
    if type(thing) is not tuple or len(thing) != 5 or not is_protocol(thing[0]) or type(thing[1]) is not tuple:
        return False
    protocol, houses, deals, sent, past = thing
    if not 2 <= len(houses) <= 4 or not all(house_valid(house) for house in houses) or not tuples(deals, 2):
        return False
    for places, seats in deals:
        if not places_valid(places, len(houses)) or not tuples(seats, 6, len(places)):
            return False
        if any(type(seat[0]) is not int or (seat[0] == -1) != (houses[house][2] is None) for house, seat in zip(places, seats)):
            return False
    if not tuples(sent, 4) or not all(is_int(letter[0], 0, len(deals) - 1) for letter in sent):
        return False
    for deal in range(len(deals)):
        if not is_standing(protocol, len(deals[deal][0]), standing(thing, deal)):
            return False
    if not is_sorted(sent):
        return False
    for h, house in enumerate(houses):
        for row in log_of(house[0]):
            if row[1] >= len(deals) or h not in deals[row[1]][0]:
                return False
            if row[0] == "begin" and row[2:] != ("leader" if deals[row[1]][0][0] == h else "member", deals[row[1]][0]):
                return False
    return past_valid(past, deals)


def standing(store, deal):
    seats = []
    for house, (state, heard, able, said, whole, told) in zip(*store[2][deal]):
        device = store[1][house][0]
        marks, safe, at = [], 0, 0
        for row in log_of(device):
            at += len(sectors_of(row))
            if row[:2] == ("mark", deal):
                marks.append(row[2])
                safe += at <= device[1]
        seats.append((state, heard, tuple(marks), safe, able, said, whole, told))
    return (tuple(seats), tuple(letter[1:] for letter in store[3] if letter[0] == deal))


def past_valid(past, deals):
    if type(past) is not tuple:
        return False
    told = []
    for event in past:
        if type(event) is not tuple or len(event) < 4 or not is_int(event[1], 0, len(deals) - 1):
            return False
        if not is_int(event[2]) or event[2] not in deals[event[1]][0] or type(event[0]) is not str:
            return False
        if event[0] == "told" and len(event) == 4:
            told.append(event[1:])
        elif event[0] not in ("read", "write") or len(event) != 5 or not is_word(event[3]) or not is_worth(event[4]):
            return False
    wanted = [(deal, house, end) for deal, (places, seats) in enumerate(deals) for house, seat in zip(places, seats) for end in seat[5]]
    return len(told) == len(wanted) and all(event in told for event in wanted)
