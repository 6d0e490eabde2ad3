"""A bench: a run that is written down, taken back and shortened (part 14)."""

from allshelves.errors import BadEvent, BadText, BadWish, NotShown, NothingToRedo, NothingToUndo
from allshelves.pages import MOST_PAGES
from allshelves.rows import FEWEST_HOUSES, MOST_HOUSES
from allshelves.stores import new_store, work_of
from allshelves.texts import Reader, protocol_lines, protocol_read
from allshelves.things import with_thing, work_behind
from allshelves.thingtexts import thing_guessed, thing_text
from allshelves.wishes import has_wish_form, is_shown
from allshelves.works import store_of


class Bench:
    """A protocol, a number of houses and one of pages, and a run from the new store with these."""

    def __init__(self, protocol, n, many):
        # The work before the run, and after each thing of it.
        self.works = [work_of(new_store(protocol, n, many))]
        self.houses_many = n
        self.pages_many = many
        self.things = []
        self.undone = []

    def __eq__(self, other):
        return isinstance(other, Bench) and self.text() == other.text()

    def protocol(self):
        return self.works[0][0]

    def run(self):
        return tuple(self.things)

    def store(self):
        return store_of(self.works[-1])

    def text(self):
        head = protocol_lines(self.protocol()) + [houses_line(self.houses_many), pages_line(self.pages_many)]
        return "\n".join(head + [thing_text(thing) for thing in self.things])

    def do(self, thing):
        self.append_thing(thing)
        self.undone = []

    def append_thing(self, thing):
        self.works.append(with_thing(self.works[-1], thing))
        self.things.append(thing)

    def undo(self):
        if len(self.things) == 0:
            raise NothingToUndo()
        self.undone.append(self.things.pop())
        self.works.pop()

    def redo(self):
        if len(self.undone) == 0:
            raise NothingToRedo()
        self.append_thing(self.undone.pop())

    def copied(self):
        bench = Bench(self.protocol(), self.houses_many, self.pages_many)
        bench.works = list(self.works)
        bench.things = list(self.things)
        bench.undone = list(self.undone)
        return bench


def houses_line(n):
    return f"houses {n}"


def pages_line(many):
    return f"pages {many}"


def read_bench(text):
    if not isinstance(text, str):
        raise BadText(0)
    reader = Reader(text.split("\n"))
    protocol = protocol_read(reader)
    n = number_read(reader, [(houses_line(k), k) for k in range(FEWEST_HOUSES, MOST_HOUSES + 1)])
    many = number_read(reader, [(pages_line(k), k) for k in range(1, MOST_PAGES + 1)])
    bench = Bench(protocol, n, many)
    while reader.at < len(reader.lines):
        thing = thing_guessed(reader.line())
        reader.take(thing_text(thing) == reader.line() and is_done(bench, thing))
    return bench


def number_read(reader, choices):
    """The number that belongs to the next line, one of some pairs (line, number)."""
    numbers = dict(choices)
    line = reader.line()
    reader.take(line in numbers)
    return numbers[line]


def is_done(bench, thing):
    """Does a thing, and tells whether it could happen."""
    try:
        bench.do(thing)
    except BadEvent:
        return False
    return True


def is_wish(thing):
    return has_wish_form(thing)


def does_show(protocol, n, many, run, wish):
    work = work_behind(work_of(new_store(protocol, n, many)), run)
    if not has_wish_form(wish):
        raise BadWish(wish)
    return is_shown(work, wish)


def start_shown(protocol, n, many, run, wish):
    """The work before a run that shows a wish."""
    if not does_show(protocol, n, many, run, wish):
        raise NotShown(wish)
    return work_of(new_store(protocol, n, many))


def shortened(protocol, n, many, run, wish):
    start = start_shown(protocol, n, many, run, wish)
    shorter = one_less(start, run, wish)
    while shorter is not None:
        run = shorter
        shorter = one_less(start, run, wish)
    return run


def is_tight(protocol, n, many, run, wish):
    return one_less(start_shown(protocol, n, many, run, wish), run, wish) is None


def one_less(work, run, wish):
    """A run that shows the wish with just one thing less; None if there is none."""
    for at, thing in enumerate(run):
        rest = run[at + 1:]
        if shows_behind(work, rest, wish):
            return run[:at] + rest
        work = with_thing(work, thing)
    return None


def shows_behind(work, things, wish):
    """Whether these things can happen one after another, and show the wish then."""
    try:
        work = work_behind(work, things)
    except BadEvent:
        return False
    return is_shown(work, wish)
