"""A second store, written down as parts 7 to 10 say it and slow where that is plainer.

It checks nothing: the tests let it do only what can happen, and compare it with
the package.
"""

from allshelves.disks import log_of, sectors_of


class Cut(Exception):
    """A house falls in the middle of an ending."""


class PlainHouse:
    def __init__(self, many):
        self.sectors, self.safe = [], 0
        self.pages = [(0, {}) for _ in range(many)]
        self.start([(0, {}) for _ in range(many)])

    def start(self, table):
        self.is_up, self.table, self.held, self.waits, self.ables = True, table, {}, [], {}

    def rows(self):
        return list(log_of((tuple(self.sectors), self.safe)))

    def rows_of(self, deal):
        return [row for row in self.rows() if row[1] == deal]

    def marks(self, deal):
        return [row[2] for row in self.rows_of(deal) if row[0] == "mark"]

    def safe_marks(self, deal):
        many, at = 0, 0
        for row in self.rows():
            at += len(sectors_of(row))
            many += row[0] == "mark" and row[1] == deal and at <= self.safe
        return many

    def has_begun(self, deal):
        return any(row[0] == "begin" for row in self.rows_of(deal))

    def do_row(self, table, number, row):
        if row[0] in ("write", "undo"):
            k = sum(ord(letter) - ord("a") for letter in row[2]) % len(table)
            last, worths = table[k]
            if last < number:
                table[k] = (number, {**worths, row[2]: row[4] if row[0] == "write" else row[3]})

    def add(self, row):
        self.sectors.extend(sectors_of(row))
        self.do_row(self.table, len(self.rows()), row)

    def force(self):
        self.safe = len(self.sectors)

    def worth(self, key):
        for _, worths in self.table:
            if key in worths:
                return worths[key]
        return None

    def clash(self, deal, key, kind, waits):
        """Those with whom a wish for a key collides, these waits counted."""
        users = [(other, other_kind) for (other_key, other), other_kind in self.held.items() if other_key == key]
        users += [(other, other_kind) for other, other_key, other_kind in waits if other_key == key]
        return sorted({other for other, other_kind in users if other != deal and "write" in (kind, other_kind)})

    def ask(self, deal, key, kind):
        if self.held.get((key, deal)) in (kind, "write"):
            return None
        others = self.clash(deal, key, kind, self.waits)
        if others:
            self.waits.append((deal, key, kind))
            return ("waits", tuple(others))
        self.held[(key, deal)] = kind
        return None

    def free(self, deal):
        self.held = {place: kind for place, kind in self.held.items() if place[1] != deal}
        self.waits = [wait for wait in self.waits if wait[0] != deal]
        k = 0
        while k < len(self.waits):
            other, key, kind = self.waits[k]
            if self.clash(other, key, kind, self.waits[:k]):
                k += 1
            else:
                self.held[(key, other)] = kind
                del self.waits[k]
                k = 0

    def use(self, deal, key, kind, worth):
        answer = self.ask(deal, key, kind)
        if answer is None:
            used = [row[2] for row in self.rows_of(deal) if row[0] in ("read", "write")]
            if kind == "write":
                self.add(("write", deal, key, self.worth(key), worth))
            elif key not in used:
                self.add(("read", deal, key))
            answer = ("worth", self.worth(key))
        return answer

    def ending(self, deal, end):
        """The rows of an ending."""
        if end == "kept":
            return [("end", deal, "kept")]
        left = []
        for row in self.rows_of(deal):
            if row[0] == "write":
                left.append(row)
            if row[0] == "undo":
                left.pop()
        return [("undo", deal, row[2], row[3]) for row in reversed(left)] + [("end", deal, "dropped")]

    def fall(self, lost):
        self.sectors = ["" if at in lost else sector for at, sector in enumerate(self.sectors)]
        self.safe = sum(len(sectors_of(row)) for row in self.rows())
        self.is_up = False

    def rise(self):
        self.sectors = self.sectors[:sum(len(sectors_of(row)) for row in self.rows())]
        self.force()
        self.start([(last, dict(worths)) for last, worths in self.pages])
        for number, row in enumerate(self.rows(), 1):
            self.do_row(self.table, number, row)
        begun = [row[1] for row in self.rows() if row[0] == "begin"]
        ended = [row[1] for row in self.rows() if row[0] == "end"]
        for deal in begun:
            if deal not in ended:
                self.ables[deal] = False
                for row in self.rows_of(deal):
                    if row[0] in ("read", "write"):
                        self.held[(row[2], deal)] = row[0]

    def house(self):
        device = (tuple(self.sectors), self.safe)
        if not self.is_up:
            return (device, paged(self.pages), None)
        held = tuple(sorted((key, deal, kind) for (key, deal), kind in self.held.items()))
        return (device, paged(self.pages), (paged(self.table), (held, tuple(self.waits)), tuple(sorted(self.ables.items()))))


def paged(pages):
    return tuple(
        (last, tuple(sorted((key, worth) for key, worth in worths.items() if worth is not None))) for last, worths in pages
    )


class PlainSeat:
    def __init__(self):
        self.state, self.heard, self.able, self.said, self.whole, self.told = None, set(), True, -1, True, set()

    def tuple(self):
        return (self.state, tuple(sorted(self.heard)), self.able, self.said, self.whole, tuple(sorted(self.told)))


class PlainStore:
    def __init__(self, protocol, n, many):
        self.protocol = protocol
        self.houses = [PlainHouse(many) for _ in range(n)]
        self.deals, self.sent, self.past = [], set(), []
        # How many rows of endings may still be written before a house falls; None for all.
        self.left = None

    def store(self):
        deals = tuple((places, tuple(seat.tuple() for seat in seats)) for places, seats in self.deals)
        return (
            self.protocol, tuple(house.house() for house in self.houses), deals, tuple(sorted(self.sent)), tuple(self.past),
        )

    def role(self, at):
        return self.protocol[min(at, 1)]

    def do(self, thing):
        return getattr(self, "do_" + thing[0])(*thing[1:])

    def do_open(self, places):
        deal = len(self.deals)
        self.deals.append((places, [PlainSeat() for _ in places]))
        for house in places:
            self.begin(deal, house, True)
        for at in range(len(places)):
            self.come(deal, at, 0)

    def begin(self, deal, house, able):
        places = self.deals[deal][0]
        self.houses[house].add(("begin", deal, "leader" if places[0] == house else "member", places))
        self.houses[house].ables[deal] = able

    def come(self, deal, at, state):
        """A house comes to a state of a deal."""
        places, seats = self.deals[deal]
        seats[at].state = state
        house, end = self.houses[places[at]], self.role(at)[0][state][0]
        if end == "":
            return
        if end not in seats[at].told:
            seats[at].told.add(end)
            self.past.append(("told", deal, places[at], end))
        if deal in house.ables:
            self.end(house, deal, "dropped" if any(row[0] == "undo" for row in house.rows_of(deal)) else end)

    def end(self, house, deal, end):
        rows = house.ending(deal, end)
        cut = self.left is not None and self.left <= len(rows)
        for row in rows[:self.left] if cut else rows:
            house.add(row)
        if cut:
            raise Cut()
        if self.left is not None:
            self.left -= len(rows)
        house.force()
        del house.ables[deal]
        house.free(deal)

    def do_read(self, deal, house, key):
        return self.use("read", deal, house, key, None)

    def do_write(self, deal, house, key, worth):
        return self.use("write", deal, house, key, worth)

    def use(self, kind, deal, house, key, worth):
        answer = self.houses[house].use(deal, key, kind, worth)
        if answer[0] == "worth":
            self.past.append((kind, deal, house, key, answer[1]))
        return answer

    def do_fire(self, deal, house, r):
        places, seats = self.deals[deal]
        at = places.index(house)
        seat, desk = seats[at], self.houses[house]
        cause, mark, forced, letters, goal = self.role(at)[0][seat.state][1][r]
        if cause == ("able",) and seat.said == -1:
            seat.said = len(desk.marks(deal))
        if mark != "" and mark not in desk.marks(deal):
            if not desk.has_begun(deal):
                self.begin(deal, house, False)
            desk.add(("mark", deal, mark))
        if forced:
            desk.force()
        for kind, to in letters:
            for other in range(len(places)):
                if other != at and (to == "others" or (to == "leader") == (other == 0)):
                    self.sent.add((deal, at, other, kind))
        self.come(deal, at, goal)

    def do_hear(self, deal, house, sender, kind):
        places, seats = self.deals[deal]
        seats[places.index(house)].heard.add((places.index(sender), kind))

    def do_fall(self, house, lost):
        self.houses[house].fall(lost)
        for deal, (places, seats) in enumerate(self.deals):
            if house in places:
                seat = seats[places.index(house)]
                if seat.state != -1:
                    left = len(self.houses[house].marks(deal))
                    seat.whole = seat.whole and seat.said != -1 and left > seat.said
                    seat.state, seat.able = -1, False
                    seat.heard = set()

    def do_up(self, house):
        self.houses[house].rise()
        for deal, (places, _) in enumerate(self.deals):
            if house in places:
                at = places.index(house)
                last = (self.houses[house].marks(deal) or [""])[-1]
                self.come(deal, at, dict(self.role(at)[1])[last])

    def do_amid(self, thing, k, lost):
        self.left = k
        try:
            self.do(thing)
        except Cut:
            pass
        self.left = None
        self.do_fall(thing[1] if thing[0] == "up" else thing[2], lost)

    def do_flush(self, house, k):
        desk = self.houses[house]
        desk.force()
        desk.pages[k] = (desk.table[k][0], dict(desk.table[k][1]))

    def do_force(self, house):
        self.houses[house].force()
