"""Disks: rows of logs in sectors of devices (part 6)."""

from allshelves.errors import BadDevice, BadLost, BadRow, BadText
from allshelves.forms import are_ascending, is_integer_in, is_tuple_of
from allshelves.rows import has_row_form, row_with, text_with

SECTOR_SIZE = 12
PIECE_SIZE = 11


def is_log_row(thing):
    return has_row_form(thing)


def row_text(row):
    if not has_row_form(row):
        raise BadRow(row)
    return text_with(row)


def sectors_of(row):
    return sectors_with(row_text(row))


def sectors_with(text):
    """The sectors of the row with a text."""
    pieces = [text[at:at + PIECE_SIZE] for at in range(0, len(text), PIECE_SIZE)]
    return tuple([f"+{piece}" for piece in pieces[:-1]] + ["." + pieces[-1].ljust(PIECE_SIZE)])


def read_row(text):
    if not isinstance(text, str):
        raise BadText(-1)
    return row_with(text)


def is_device(thing):
    if not is_tuple_of(thing, 2):
        return False
    sectors, safe = thing
    if not isinstance(sectors, tuple) or not all([is_sector(sector) for sector in sectors]):
        return False
    return is_integer_in(safe, 0, len(sectors)) and "" not in sectors[:safe]


def is_sector(thing):
    return isinstance(thing, str) and len(thing) in (0, SECTOR_SIZE)


def need_device(device):
    if not is_device(device):
        raise BadDevice(device)


def need_clean(device):
    if not is_device(device) or length_with(log_on(device[0])) < len(device[0]):
        raise BadDevice(device)


def log_on(sectors):
    """The log on some sectors: the pair of its rows and, for each, the position where its sectors end."""
    rows, ends, start = [], [], 0
    for at, sector in enumerate(sectors):
        # Only the last sector of a row begins with "."; row_on looks at those before it.
        if sector[:1] == ".":
            row = row_on(sectors[start:at + 1])
            if row is None:
                break
            start = at + 1
            rows.append(row)
            ends.append(start)
    return (tuple(rows), tuple(ends))


def length_with(log):
    """The number of the sectors of a log that was read."""
    return log[1][-1] if len(log[1]) > 0 else 0


def row_on(sectors):
    """The row whose sectors these are, None if they are those of no row."""
    text = "".join([sector[1:] for sector in sectors]).rstrip(" ")
    try:
        row = row_with(text)
    except BadText:
        return None
    return row if sectors_with(text) == sectors else None


def log_of(device):
    need_device(device)
    return log_on(device[0])[0]


def length_of(device):
    need_device(device)
    return length_with(log_on(device[0]))


def written(device, row):
    need_clean(device)
    sectors, safe = device
    return (sectors + sectors_of(row), safe)


def forced(device):
    need_clean(device)
    sectors, _ = device
    return (sectors, len(sectors))


def mended(device):
    length = length_of(device)
    return (device[0][:length], length)


def cut(device, lost):
    need_device(device)
    if not can_lose(device, lost):
        raise BadLost(lost)
    sectors = without(device[0], lost)
    return (sectors, length_with(log_on(sectors)))


def can_lose(device, thing):
    """Whether any value is a set of sectors that the device can lose."""
    return are_positions(thing, device[1], len(device[0]))


def without(sectors, lost):
    return tuple(["" if at in lost else sector for at, sector in enumerate(sectors)])


def are_positions(thing, low, many):
    """Whether any value is an ascending tuple of positions among so many, from low on."""
    if not isinstance(thing, tuple):
        return False
    return all([is_integer_in(at, low, many - 1) for at in thing]) and are_ascending(thing)
