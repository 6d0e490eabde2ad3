"""Part 8: locks, asking, freeing, and webs of those that wait."""

import random
import unittest
from itertools import combinations, permutations

from allshelves.errors import BadDeal, BadKind, BadLocks, BadWeb, BadWord
from allshelves.locks import are_locks, asked, freed, judge_web, victim, waits_for, web_holds
from helpers import Checks, spoiled, values_of_any_kind
from oracle import locks_valid

NONE = ((), ())
READS = ((("a", 1, "read"), ("a", 2, "read")), ())
# 3 holds b; 1 reads a and waits to write it behind 2, who waits for b.
FULL = ((("a", 1, "read"), ("a", 4, "read"), ("b", 3, "write")), ((2, "b", "read"), (1, "a", "write"), (5, "a", "read")))
NO_DEALS = (-1, True, False, None, "1", (1,), [1], {})


class Forms(Checks):
    def no(self, thing):
        self.assertIs(are_locks(thing), False, thing)
        self.refuses(BadLocks, thing, asked, thing, -1, "", "")
        self.refuses(BadLocks, thing, freed, thing, -1)
        self.refuses(BadLocks, thing, waits_for, thing)

    def yes(self, thing):
        self.assertIs(are_locks(thing), True, thing)
        self.assertIs(are_locks(thing=thing), True)

    def test_valid_ones(self):
        for thing in (
            NONE, READS, FULL, ((("a", 0, "write"),), ()), ((("a", 1, "read"), ("b", 1, "write")), ()),
            # Waits that could be granted, of a deal that holds nothing or reads.
            ((), ((1, "a", "write"), (2, "a", "write"))), ((("a", 1, "read"),), ((1, "a", "write"),)),
            ((("a", 1, "read"),), ((10 ** 39, "abcdefghij", "read"),)),
        ):
            self.yes(thing)

    def test_held(self):
        self.no(((("a", 2, "read"), ("a", 1, "read")), ()))
        self.no(((("b", 1, "read"), ("a", 1, "read")), ()))
        self.no(((("a", 1, "read"), ("a", 1, "read")), ()))
        self.no(((("a", 1, "read"), ("a", 1, "write")), ()))

    def test_kinds_that_are_not_compatible(self):
        self.no(((("a", 1, "read"), ("a", 2, "write")), ()))
        self.no(((("a", 1, "write"), ("a", 2, "read")), ()))
        self.no(((("a", 1, "write"), ("a", 2, "write")), ()))
        self.no(((("a", 1, "read"), ("a", 2, "read"), ("a", 3, "write")), ()))
        self.yes(((("a", 1, "write"), ("b", 2, "write")), ()))

    def test_waits_for_what_is_held(self):
        self.no(((("a", 1, "read"),), ((1, "a", "read"),)))
        self.no(((("a", 1, "write"),), ((1, "a", "read"),)))
        self.no(((("a", 1, "write"),), ((1, "a", "write"),)))
        self.yes(((("a", 1, "write"),), ((1, "b", "write"),)))

    def test_a_deal_waits_once(self):
        self.no(((), ((1, "a", "read"), (1, "a", "read"))))
        self.no(((), ((1, "a", "read"), (1, "b", "read"))))
        self.no(((), ((1, "a", "read"), (2, "a", "read"), (1, "a", "write"))))

    def test_parts(self):
        for deal in NO_DEALS:
            self.no(((("a", deal, "read"),), ()))
            self.no(((), ((deal, "a", "read"),)))
        for key in ("", "A", "a" * 11, 1, None, ("a",)):
            self.no((((key, 1, "read"),), ()))
            self.no(((), ((1, key, "read"),)))
        for kind in ("", "reads", "undo", 0, None, ("read",), ["read"], {}):
            self.no(((("a", 1, kind),), ()))
            self.no(((), ((1, "a", kind),)))
        for thing in ([(), ()], ((),), ((), (), ()), ([], ()), ((), []), ((("a", 1),), ()), ((), ((1, "a"),)), ((["a", 1, "read"],), ())):
            self.no(thing)

    def test_spoiled(self):
        for thing in spoiled(FULL):
            self.assertIs(are_locks(thing), locks_valid(thing), thing)
        for thing in values_of_any_kind():
            self.assertIs(are_locks(thing), thing == ((), ()) and type(thing) is tuple, thing)


class Asking(Checks):
    def test_what_is_held_already(self):
        self.same(asked(READS, 1, "a", "read"), (True, READS))
        wrote = ((("a", 1, "write"),), ())
        self.same(asked(wrote, 1, "a", "read"), (True, wrote))
        self.same(asked(wrote, 1, "a", "write"), (True, wrote))
        # Also if others wait.
        waited = ((("a", 1, "read"),), ((2, "a", "write"),))
        self.same(asked(waited, 1, "a", "read"), (True, waited))

    def test_granted(self):
        self.same(asked(NONE, 1, "a", "read"), (True, ((("a", 1, "read"),), ())))
        self.same(asked(NONE, 1, "a", "write"), (True, ((("a", 1, "write"),), ())))
        self.same(asked(READS, 0, "a", "read"), (True, ((("a", 0, "read"), ("a", 1, "read"), ("a", 2, "read")), ())))
        self.same(asked(kind="write", key="b", deal=1, locks=READS), (True, (READS[0] + (("b", 1, "write"),), ())))

    def test_write_over_read(self):
        self.same(asked(((("a", 1, "read"),), ()), 1, "a", "write"), (True, ((("a", 1, "write"),), ())))
        self.same(asked(READS, 1, "a", "write"), (False, (READS[0], ((1, "a", "write"),))))
        # A wait counts even against a deal that reads already.
        waited = ((("a", 1, "read"),), ((2, "a", "write"),))
        self.same(asked(waited, 1, "a", "write"), (False, (waited[0], waited[1] + ((1, "a", "write"),))))

    def test_not_granted(self):
        wrote = ((("a", 1, "write"),), ())
        for kind in ("read", "write"):
            self.same(asked(wrote, 2, "a", kind), (False, (wrote[0], ((2, "a", kind),))))
        self.same(asked(READS, 3, "a", "write"), (False, (READS[0], ((3, "a", "write"),))))

    def test_behind_other_waits(self):
        first = asked(READS, 3, "a", "write")[1]
        second = asked(first, 4, "a", "read")
        self.same(second, (False, (READS[0], ((3, "a", "write"), (4, "a", "read")))))
        self.same(asked(second[1], 5, "b", "read")[0], True)
        # Of a wait in a kind that is compatible, nothing is minded.
        read_wait = ((), ((1, "a", "read"),))
        self.same(asked(read_wait, 2, "a", "read"), (True, ((("a", 2, "read"),), read_wait[1])))
        self.same(asked(read_wait, 2, "a", "write")[0], False)

    def test_errors(self):
        for deal in NO_DEALS:
            self.refuses(BadDeal, deal, asked, NONE, deal, "", "")
            self.refuses(BadDeal, deal, freed, NONE, deal)
        for deal in (1, 2, 5):
            self.refuses(BadDeal, deal, asked, FULL, deal, "c", "read")
        for key in ("", "A", 1, None, ["a"]):
            self.refuses(BadWord, key, asked, FULL, 3, key, "")
        for kind in ("", "undo", None, 0, True, ("read",), ["read"]):
            self.refuses(BadKind, kind, asked, FULL, 3, "b", kind)


def plain_grant(held, waits, at):
    deal, key, kind = waits[at]
    users = [(other, other_kind) for other_key, other, other_kind in held if other_key == key]
    users += [(other, other_kind) for other, other_key, other_kind in waits[:at] if other_key == key]
    return all(other == deal or (kind, other_kind) == ("read", "read") for other, other_kind in users)


def plain_freed(locks, deal):
    held = [hold for hold in locks[0] if hold[1] != deal]
    waits = [wait for wait in locks[1] if wait[0] != deal]
    granted = []
    while True:
        able = [at for at in range(len(waits)) if plain_grant(held, waits, at)]
        if not able:
            return ((tuple(sorted(held)), tuple(waits)), tuple(granted))
        other, key, kind = waits.pop(able[0])
        held = [hold for hold in held if hold[:2] != (key, other)] + [(key, other, kind)]
        granted.append(other)


class Freeing(Checks):
    def test_who_holds(self):
        self.same(freed(READS, 1), (((("a", 2, "read"),), ()), ()))
        self.same(freed(((("a", 1, "write"), ("b", 1, "read")), ()), 1), (NONE, ()))

    def test_who_waits(self):
        locks = ((("a", 1, "write"),), ((2, "a", "write"), (3, "b", "read")))
        self.same(freed(((("a", 1, "write"),), ((2, "a", "write"),)), 2), (((("a", 1, "write"),), ()), ()))
        self.same(freed(locks, 2), (((("a", 1, "write"), ("b", 3, "read")), ()), (3,)))

    def test_both(self):
        locks = ((("a", 1, "read"), ("a", 2, "read")), ((1, "a", "write"), (3, "a", "read")))
        self.same(freed(locks, 1), (((("a", 2, "read"), ("a", 3, "read")), ()), (3,)))

    def test_neither(self):
        self.same(freed(READS, 7), (READS, ()))
        # What could be granted before is granted.
        self.same(freed(((), ((1, "a", "write"),)), 7), (((("a", 1, "write"),), ()), (1,)))
        self.same(freed(deal=0, locks=NONE), (NONE, ()))

    def test_several_in_order(self):
        locks = ((("a", 9, "write"),), ((5, "a", "read"), (2, "a", "read"), (7, "a", "write"), (1, "a", "read"), (3, "b", "write")))
        held = (("a", 2, "read"), ("a", 5, "read"), ("b", 3, "write"))
        self.same(freed(locks, 9), ((held, ((7, "a", "write"), (1, "a", "read"))), (5, 2, 3)))
        self.same(freed(freed(locks, 9)[0], 5), ((held[:1] + held[2:], ((7, "a", "write"), (1, "a", "read"))), ()))
        after = freed(freed(freed(locks, 9)[0], 5)[0], 2)
        self.same(after, (((("a", 7, "write"), ("b", 3, "write")), ((1, "a", "read"),)), (7,)))

    def test_write_replaces_read(self):
        locks = ((("a", 1, "read"), ("a", 2, "read")), ((1, "a", "write"),))
        self.same(freed(locks, 2), (((("a", 1, "write"),), ()), (1,)))

    def test_only_earlier_waits_count(self):
        locks = ((), ((1, "a", "read"), (2, "a", "write")))
        self.same(freed(locks, 9), (((("a", 1, "read"),), ((2, "a", "write"),)), (1,)))

    def test_an_upgrade_behind_a_wait_for_it(self):
        # 2 waits for what 1 reads, and 1 for 2: nothing is granted until one goes.
        locks = ((("a", 1, "read"),), ((2, "a", "write"), (1, "a", "write")))
        self.same(waits_for(locks), ((1, 2), (2, 1)))
        self.same(freed(locks, 9), (locks, ()))
        self.same(freed(locks, 2), (((("a", 1, "write"),), ()), (1,)))
        self.same(freed(locks, 1), (((("a", 2, "write"),), ()), (2,)))

    def test_drawn(self):
        source = random.Random(2)
        for _ in range(150):
            locks = NONE
            for _ in range(12):
                deal, key, kind = source.randrange(6), source.choice("ab"), source.choice(("read", "write"))
                if source.random() < 0.3:
                    wanted = plain_freed(locks, deal)
                    self.same(freed(locks, deal), wanted)
                    locks = wanted[0]
                elif deal not in [wait[0] for wait in locks[1]]:
                    granted, locks = asked(locks, deal, key, kind)
                    self.assertIs(granted, deal not in [wait[0] for wait in locks[1]])
                self.assertIs(are_locks(locks), True)
                self.same(waits_for(locks), plain_web(locks))


def plain_web(locks):
    pairs = set()
    for at, (deal, key, kind) in enumerate(locks[1]):
        users = [(other, other_kind) for other_key, other, other_kind in locks[0] if other_key == key]
        users += [(other, other_kind) for other, other_key, other_kind in locks[1][:at] if other_key == key]
        pairs |= {(deal, other) for other, other_kind in users if other != deal and "write" in (kind, other_kind)}
    return tuple(sorted(pairs))


RINGS = ((1, 2), (2, 3), (3, 1), (3, 4), (4, 5), (5, 4), (6, 5), (9, 6))
CHAIN = ((1, 5), (2, 1), (2, 5), (3, 2))


def all_webs():
    pairs = [(deal, other) for deal in range(3) for other in range(3) if deal != other] + [(3, 0), (2, 3)]
    for many in range(len(pairs) + 1):
        for web in combinations(sorted(pairs), many):
            yield web


def plain_orders(web):
    deals = sorted({deal for pair in web for deal in pair})
    return [order for order in permutations(deals) if all(order.index(other) < order.index(deal) for deal, other in web)]


def plain_rings(web):
    deals = sorted({deal for pair in web for deal in pair})
    rings = []
    for many in range(2, len(deals) + 1):
        for ring in permutations(deals, many):
            if all((ring[k - 1], ring[k]) in web for k in range(many)):
                rings.append(ring)
    return rings


class Webs(Checks):
    def test_waits_for(self):
        self.same(waits_for(FULL), ((1, 4), (2, 3), (5, 1)))
        self.same(waits_for(locks=NONE), ())
        self.same(waits_for(((("a", 1, "write"),), ((2, "a", "read"), (3, "a", "read"), (4, "a", "write")))), ((2, 1), (3, 1), (4, 1), (4, 2), (4, 3)))

    def test_no_web(self):
        for web in [
            ((1, 1),), ((2, 1), (1, 2)), ((1, 2), (1, 2)), ((1, 2, 3),), ((1,),), [(1, 2)], ([1, 2],), ((1, True),), ((-1, 2),), ((1, None),),
            (("a", "b"),), (1, 2), *[thing for thing in values_of_any_kind() if thing != ()],
        ]:
            self.refuses(BadWeb, web, judge_web, web)
            self.refuses(BadWeb, web, web_holds, web, ("order", ()))
            self.refuses(BadWeb, web, victim, web)

    def test_certificates_of_all_small_webs(self):
        for web in all_webs():
            orders, rings = plain_orders(web), plain_rings(web)
            self.assertNotEqual(orders == [], rings == [], web)
            found = judge_web(web)
            self.assertIn(found, [("order", order) for order in orders] + [("ring", ring) for ring in rings])
            self.assertIs(web_holds(web, found), True)
            self.same(victim(web), max((deal for ring in rings for deal in ring), default=None))

    def test_right_and_wrong_certificates(self):
        for web in (CHAIN, RINGS, ((1, 2), (2, 1)), (), ((0, 1), (1, 2), (2, 0))):
            right = [("order", order) for order in plain_orders(web)] + [("ring", ring) for ring in plain_rings(web)]
            for certificate in right:
                self.assertIs(web_holds(web, certificate), True)
                for thing in spoiled(certificate):
                    same = isinstance(thing, tuple) and repr(thing) in [repr(other) for other in right]
                    self.assertIs(web_holds(web, thing), same, thing)

    def test_rings_turned_round(self):
        for ring in ((1, 2, 3), (2, 3, 1), (3, 1, 2), (4, 5), (5, 4)):
            self.assertIs(web_holds(RINGS, ("ring", ring)), True)
        for ring in ((3, 2, 1), (1, 2), (1, 3), (4,), (), (6, 5), (1, 2, 3, 1, 2, 3), (1, 2, 3, 4), (1, 2, 3, 4, 5), [1, 2, 3], (True, 2, 3)):
            self.assertIs(web_holds(RINGS, ("ring", ring)), False, ring)

    def test_orders(self):
        for order in ((5, 1, 2, 3),):
            self.assertIs(web_holds(CHAIN, ("order", order)), True)
        for order in ((5, 1, 2), (5, 1, 2, 3, 4), (5, 1, 2, 3, 3), (1, 5, 2, 3), (3, 2, 1, 5), [5, 1, 2, 3], (5, True, 2, 3), ()):
            self.assertIs(web_holds(CHAIN, ("order", order)), False, order)
        self.assertIs(web_holds(thing=("order", ()), web=()), True)
        self.same(judge_web(web=()), ("order", ()))
        self.assertIs(web_holds((), ("order", (1,))), False)

    def test_values_of_any_kind(self):
        for thing in values_of_any_kind() + [("ring",), ("order",), ("order", 1), ("ring", "ab"), ("order", (1, 2), 3), ["order", ()]]:
            for web in ((), CHAIN, RINGS):
                self.assertIs(web_holds(web, thing), False, thing)

    def test_victims(self):
        # 9 and 6 are greater than those on rings, but on none.
        self.same(victim(RINGS), 5)
        self.same(victim(web=CHAIN), None)
        self.same(victim(()), None)
        self.same(victim(((1, 2), (2, 1), (2, 7), (7, 8))), 2)

    def test_long_webs(self):
        chain = tuple((deal, deal + 1) for deal in range(150))
        self.same(judge_web(chain)[0], "order")
        self.same([judge_web(chain + ((150, 0),))[0], victim(chain + ((150, 0),))], ["ring", 150])


if __name__ == "__main__":
    unittest.main()
