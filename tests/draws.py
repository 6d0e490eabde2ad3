"""Drawn runs of stores, in which everything happens that can, some of it more often."""

import functools
import random

from allshelves import stores
from allshelves.errors import ShelfError
from allshelves.protocols import known, read_protocol

# Each house keeps or drops what it likes: deals have different ends at different houses.
LOOSE = read_protocol("""leader
state
on able write go go 1
on unable go 2
on timer force out send bye members go 3
state
on timer write kept send keep members go 4
on each ok send keep others go 4
state dropped
state dropped
on timer send bye others go 3
state kept
up 0
up go 1
up kept 4
up out 2
member
state
on able send ok leader go 1
on timer write no go 3
on some bye write no go 3
state
on some keep write kept go 2
on timer force maybe go 1
state kept
on timer go 2
state dropped
up 3
up kept 2
up maybe 1
up no 0""")

# The leader has its end at once.
HASTY = read_protocol("""leader
state kept
on timer write done send bye members go 0
up 0
up done 0
member
state
on timer write done go 1
state kept
up 0
up done 1""")

# Marks are written and not forced; the leader comes to its end "kept" again and again.
SLOW = read_protocol("""leader
state
on timer write m go 0
on timer write n go 1
on unable go 2
state kept
on timer go 0
state dropped
up 0
up m 0
up n 1
member
state
on able write m send hi leader go 0
on timer write n go 1
state dropped
up 0
up m 0
up n 1""")

PROTOCOLS = {
    "tworounds": known("tworounds"), "oneround": known("oneround"), "lazy": known("lazy"), "loose": LOOSE, "hasty": HASTY,
    "slow": SLOW,
}
KEYS = "abc"
WEIGHTS = {"open": 3, "read": 2, "write": 3, "hear": 3, "fall": 0.5, "up": 2, "flush": 0.2, "force": 0.2}
# Rules that lead on are fired more often than those that give up.
CAUSE_WEIGHTS = {"able": 2, "each": 6, "some": 3, "unable": 0.3, "timer": 0.3}
# What hinders deals; how often it happens differs from run to run.
WILD = ("fall", "unable", "timer")
FUNCTIONS = {
    "open": stores.opened, "read": stores.read, "write": stores.write, "fire": stores.fired, "hear": stores.hears,
    "fall": stores.falls, "amid": stores.amid, "up": stores.comes_up, "flush": stores.flush, "force": stores.force,
}


def after(store, thing):
    """The store after a thing, and the answer to a read or write, None for other things."""
    result = FUNCTIONS[thing[0]](store, *thing[1:])
    return result if thing[0] in ("read", "write") else (result, None)


def some_of(source, places):
    chance = source.choice((0, 0.3, 0.7, 1))
    return tuple(at for at in places if source.random() < chance)


def things_of_houses(source, store):
    found = []
    for house, (device, pages, run) in enumerate(store[1]):
        if run is None:
            found.append(("up", house))
        else:
            found.append(("fall", house, some_of(source, range(device[1], len(device[0])))))
            found.append(("force", house))
            found.append(("flush", house, source.randrange(len(pages))))
    return found


def things_of_deals(source, store):
    found = []
    for deal, (places, seats) in enumerate(store[2]):
        for house in places:
            found.extend([("fire", deal, house, r) for r in stores.can_fire(store, deal, house)])
        house, key = source.choice(places), source.choice(KEYS)
        found.append(("read", deal, house, key))
        found.append(("write", deal, house, key, source.choice((None, -5, 0, 1, 23456))))
    for deal, sender, at, kind in store[3]:
        places, seats = store[2][deal]
        if seats[at][0] != -1 and (sender, kind) not in seats[at][1]:
            found.append(("hear", deal, places[at], places[sender], kind))
    return found


def candidates(source, store, most_deals):
    """Things that may happen, of each kind some; not all of them can."""
    found = things_of_houses(source, store) + things_of_deals(source, store)
    if len(store[2]) < most_deals:
        many = source.randint(2, len(store[1]))
        found.append(("open", tuple(source.sample(range(len(store[1])), many))))
    for thing in list(found):
        if thing[0] in ("fire", "up"):
            (sectors, safe), _, _ = store[1][thing[1] if thing[0] == "up" else thing[2]]
            found.append(("amid", thing, source.randrange(4), some_of(source, range(safe, len(sectors) + 4))))
            found.append(("amid", thing, source.randrange(3), ()))
        if thing[0] == "up":
            found.extend([("amid", thing, k, lost) for k in (1, 2, 3, 4) for lost in ((), (len(sectors) + k,))])
    return found


def weight(store, thing, wildness):
    word = thing[0]
    if word == "amid":
        return weight(store, thing[1], wildness) / 8
    if word == "fire":
        _, deal, house, r = thing
        places, seats = store[2][deal]
        at = places.index(house)
        word = store[0][min(at, 1)][0][seats[at][0]][1][r][0][0]
    return {**WEIGHTS, **CAUSE_WEIGHTS}[word] * (wildness if word in WILD else 1)


def drawn_thing(source, store, most_deals, wildness):
    """A triple (thing, store after it, answer)."""
    found = candidates(source, store, most_deals)
    weights = [weight(store, thing, wildness) for thing in found]
    while True:
        thing = source.choices(found, weights)[0]
        try:
            return (thing,) + after(store, thing)
        except ShelfError:
            continue


class Drawn:
    """A drawn run: its things, the stores before it and after each thing, the answers."""

    def __init__(self, source, name, n, many, length, most_deals, wildness):
        self.name, self.protocol, self.n, self.many = name, PROTOCOLS[name], n, many
        self.stores, self.run, self.answers = [stores.new_store(self.protocol, n, many)], (), []
        for _ in range(length):
            thing, store, answer = drawn_thing(source, self.stores[-1], most_deals, wildness)
            self.run += (thing,)
            self.stores.append(store)
            self.answers.append(answer)


@functools.cache
def drawn_runs(many=60, length=40):
    source = random.Random(3)
    found = []
    for k in range(many):
        name = list(PROTOCOLS)[k % len(PROTOCOLS)]
        n, pages = source.choice((2, 2, 3, 4)), source.choice((1, 2, 8))
        found.append(Drawn(source, name, n, pages, length, source.randint(1, 6), source.choice((0.02, 0.1, 0.3, 1))))
    return found
