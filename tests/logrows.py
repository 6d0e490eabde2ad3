"""Rows that can stand after others and rows that cannot, and houses that are built of rows."""

from allshelves.disks import written
from allshelves.tables import all_done, empty_pages

B1, B2 = ("begin", 1, "leader", (0, 1)), ("begin", 2, "member", (1, 0))
R1A, R2A = ("read", 1, "a"), ("read", 2, "a")
W1A, W1B, W2A = ("write", 1, "a", None, 5), ("write", 1, "b", None, 6), ("write", 2, "a", None, 7)
U1A, U1B = ("undo", 1, "a", None), ("undo", 1, "b", None)
M1, M2 = ("mark", 1, "yes"), ("mark", 2, "yes")
KEPT1, DROPPED1 = ("end", 1, "kept"), ("end", 1, "dropped")

# Pairs (rows that can stand, a row that cannot stand after them), by what is wrong.
CANNOT_STAND = {
    "begin: has a row": [((B1,), B1), ((B1, KEPT1), B1), ((B1, W1A), ("begin", 1, "member", (1, 0)))],
    "read: has not begun": [((), R1A), ((B2,), R1A)],
    "read: has a mark": [((B1, M1), R1A), ((B1, W1A, M1), ("read", 1, "b"))],
    "read: has an undo": [((B1, W1A, U1A), ("read", 1, "b")), ((B1, W1A, U1A), R1A)],
    "read: has ended": [((B1, KEPT1), R1A), ((B1, DROPPED1), R1A)],
    "read: another writes": [((B1, B2, W2A), R1A), ((B1, B2, W1A, U1A), R2A)],
    "read: has a row of the key": [((B1, R1A), R1A), ((B1, W1A), R1A)],
    "write: has not begun": [((), W1A), ((B2,), W1A)],
    "write: has a mark": [((B1, M1), W1A)],
    "write: has an undo": [((B1, W1A, U1A), W1A)],
    "write: has ended": [((B1, KEPT1), W1A), ((B1, DROPPED1), W1A)],
    "write: another writes": [((B1, B2, W1A), ("write", 2, "a", 5, 7)), ((B1, B2, W1A, M1), ("write", 2, "a", 5, 7))],
    "write: another reads": [((B1, B2, R1A), W2A), ((B1, B2, R1A, R2A), W2A)],
    "write: before": [
        ((B1,), ("write", 1, "a", 0, 5)), ((B1, W1A), W1A), ((B1, W1A), ("write", 1, "a", 6, 5)), ((B1, W1A, KEPT1, B2), W2A),
        ((B1, W1A, U1A, DROPPED1, B2), ("write", 2, "a", 5, 7)), ((B1, W1A), ("write", 1, "b", 5, 7)),
    ],
    "mark: has not begun": [((), M1), ((B2,), M1)],
    "mark: has occurred": [((B1, M1), M1), ((B1, M1, KEPT1), M1)],
    "undo: has not begun": [((), U1A), ((B2,), U1A)],
    "undo: has ended": [((B1, W1A, KEPT1), U1A), ((B1, W1A, U1A, DROPPED1), U1A)],
    "undo: nothing to take back": [((B1,), U1A), ((B1, W1A, U1A), U1A), ((B1, R1A), U1A), ((B1, B2, W2A), U1A)],
    "undo: not the last": [((B1, W1A, W1B), U1A), ((B1, W1A, ("write", 1, "a", 5, 8)), U1A)],
    "undo: another worth": [((B1, W1A), ("undo", 1, "a", 5)), ((B1, W1A), ("undo", 1, "a", 0)), ((B1, W1A), U1B)],
    "end: has not begun": [((), KEPT1), ((B2,), DROPPED1)],
    "end: has ended": [((B1, KEPT1), KEPT1), ((B1, KEPT1), DROPPED1), ((B1, DROPPED1), KEPT1)],
    "end: kept after undo": [((B1, W1A, U1A), KEPT1), ((B1, W1A, W1B, U1B), KEPT1)],
    "end: dropped without undo": [((B1, W1A), DROPPED1), ((B1, W1A, W1B, U1B), DROPPED1)],
}

# Rows that can stand one after another; between them, they come close to all of the above.
CAN_STAND = [
    (),
    (B1, B2, R1A, R2A, M1, M2, KEPT1, ("end", 2, "dropped")),
    (B1, R1A, W1A, ("write", 1, "a", 5, None), ("write", 1, "a", None, 9), KEPT1, B2, R2A, ("write", 2, "a", 9, 7)),
    (B1, B2, W1A, KEPT1, ("write", 2, "a", 5, 7), ("write", 2, "b", None, 1)),
    (B1, B2, W1A, U1A, DROPPED1, W2A), (B1, B2, R1A, DROPPED1, W2A), (B1, B2, W1A, M1, ("mark", 1, "no"), KEPT1, ("mark", 1, "kept"), R2A),
    (B1, W1A, W1B, ("write", 1, "a", 5, 8), ("undo", 1, "a", 5), U1B, ("mark", 1, "late"), U1A, DROPPED1, ("mark", 1, "later")),
    (B1, R1A, M1, DROPPED1), (B1, W1A, M1, U1A, M2[:1] + (1, "kept"), DROPPED1),
    (("begin", 10 ** 39, "member", (3, 0, 2, 1)), ("write", 10 ** 39, "abcdefghij", None, -(10 ** 39))),
]


def device_with(rows, is_safe=True):
    device = ((), 0)
    for row in rows:
        device = written(device, row)
    return (device[0], len(device[0]) if is_safe else 0)


def begun_in(rows):
    ended = [row[1] for row in rows if row[0] == "end"]
    return sorted(row[1] for row in rows if row[0] == "begin" and row[1] not in ended)


def run_with(rows, many=1, able=False):
    """What a house with these rows has in memory after it came up; able says whether its deals are."""
    deals = begun_in(rows)
    uses = {(row[2], row[1]): row[0] for row in rows if row[0] in ("read", "write") and row[1] in deals}
    held = tuple(sorted(place + (kind,) for place, kind in uses.items()))
    return (all_done(empty_pages(many), rows), (held, ()), tuple((deal, able) for deal in deals))


def house_up(rows, many=1, able=False):
    return (device_with(rows), empty_pages(many), run_with(rows, many, able))


def house_down(rows, many=1):
    return (device_with(rows), empty_pages(many), None)
