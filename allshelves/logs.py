"""What the rows of a log say, and which of them can stand after the others ([13.2])."""


class DealRows:
    """What the rows of one deal in a log say so far."""

    def __init__(self, role, houses):
        self.role = role
        self.all_houses = houses
        self.marks = []
        # The keys of its rows, and the kind in which it uses each.
        self.uses = {}
        # Its "write" rows that have not been taken back.
        self.kept_writes = []
        self.is_undone = False
        self.end = ""


class LogReader:
    """Takes the rows of a log, one after another, as long as they can stand.

    h is the number of the house, or None if what depends on it does not matter;
    marks has the marks of each role, or is None if any word may be a mark.
    """

    def __init__(self, h, marks):
        self.h = h
        self.marks = marks
        self.worths = {}
        self.deals = {}

    def take_all(self, rows):
        """Takes rows as far as they can stand; the number of the first one that cannot, 0 if all do."""
        for at, row in enumerate(rows):
            if not self.can_stand(row):
                return at + 1
            self.take(row)
        return 0

    def can_stand(self, row):
        word, deal = row[:2]
        if word == "begin":
            return deal not in self.deals and self.can_begin(row[2], row[3])
        if deal not in self.deals:
            return False
        own = self.deals[deal]
        if word == "mark":
            return self.can_be_marked(own, row[2])
        if own.end != "":
            return False
        if word == "undo":
            return len(own.kept_writes) > 0 and own.kept_writes[-1][2:4] == row[2:]
        if word == "end":
            return not own.is_undone if row[2] == "kept" else len(own.kept_writes) == 0
        return self.can_be_used(own, row)

    def can_begin(self, role, houses):
        if self.h is None:
            return True
        return self.h in houses and (role == "leader") == (houses[0] == self.h)

    def can_be_marked(self, own, mark):
        return mark not in own.marks and (self.marks is None or mark in self.marks[own.role])

    def can_be_used(self, own, row):
        """Whether a "read" or "write" row of a deal that has not ended can stand."""
        word, deal, key = row[:3]
        if len(own.marks) > 0 or own.is_undone:
            return False
        kinds = [other.uses.get(key) for one, other in self.deals.items() if one != deal and other.end == ""]
        if word == "read":
            return "write" not in kinds and key not in own.uses
        return "write" not in kinds and "read" not in kinds and self.worths.get(key) == row[3]

    def take(self, row):
        word, deal = row[:2]
        if word == "begin":
            self.deals[deal] = DealRows(row[2], row[3])
            return
        own = self.deals[deal]
        if word == "mark":
            own.marks.append(row[2])
        elif word == "end":
            own.end = row[2]
        elif word == "read":
            own.uses[row[2]] = "read"
        elif word == "write":
            own.uses[row[2]] = "write"
            own.kept_writes.append(row)
            self.worths[row[2]] = row[4]
        else:
            own.is_undone = True
            own.kept_writes.pop()
            self.worths[row[2]] = row[3]

    def deals_open(self):
        """The ascending list of the deals with a "begin" row and no "end" row."""
        return sorted([deal for deal, own in self.deals.items() if own.end == ""])


def rows_of(rows, deal, word):
    return [row for row in rows if row[1] == deal and row[0] == word]


def begin_of(rows, deal):
    """The "begin" row of a deal; None if there is none."""
    begins = rows_of(rows, deal, "begin")
    return begins[0] if len(begins) > 0 else None


def marks_in_log(rows, deal):
    """The tuple of the marks of a deal, in the order of their rows."""
    return tuple([row[2] for row in rows_of(rows, deal, "mark")])


def last_mark_in(rows, deal):
    marks = marks_in_log(rows, deal)
    return marks[-1] if len(marks) > 0 else ""


def rows_of_ending(rows, deal, end):
    """The rows that are written when a deal ends ([9.2])."""
    if end == "kept":
        return [("end", deal, end)]
    writes = rows_of(rows, deal, "write")
    many = len(writes) - len(rows_of(rows, deal, "undo"))
    undos = [("undo", deal, key, before) for _, _, key, before, _ in writes[:many]]
    return undos[::-1] + [("end", deal, end)]


def keys_used(rows, deal):
    """The keys of the "read" and "write" rows of a deal."""
    return [row[2] for row in rows_of(rows, deal, "read") + rows_of(rows, deal, "write")]
