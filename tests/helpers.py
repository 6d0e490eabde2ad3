"""What the tests share: values of any kind, spoiled values, and checks of errors."""

import unittest

from allshelves.benches import Bench
from allshelves.errors import BadProtocol, BadText, BadWord, Down, ShelfError
from allshelves.protocols import known
from allshelves.texts import Reader


def nested(depth):
    thing = ()
    for _ in range(depth - 1):
        thing = (thing,)
    return thing


def values_of_any_kind():
    """Values that are almost no argument of any kind that is asked for."""
    bench = Bench(known("oneround"), 2, 1)
    return [
        None, True, False, 0, 1, -1, 5, 10 ** 40 - 1, -(10 ** 40 - 1),
        "", "a", "kept", "able", "0", "x" * 1000, "~ {}\n\n", "\n",
        (None,), ((),), ((), ()), ((), (), ()), ("able",), ("up", 0), (1, 2), (True, False),
        [], [[]], [[], []], [("up", 0)], [1, "a", None],
        {}, {"a": [1, {"b": ()}]}, {(): []}, {0: "leader", 1: "member"},
        ({}, {}), ([], []), ("", ""), (0, 0), (None, None), ({}, []), (((),), ((),)),
        nested(10), [nested(9)], tuple(range(1999)), ("a",) * 1999,
        ShelfError(), BadWord("a"), BadProtocol(()), BadText(3), Down(), Reader([]),
        (BadWord("a"), BadWord("a")), ((Down(), Down()), [Reader([])]), bench, (bench, bench), [bench], ("up", bench), (bench,) * 5,
    ]


# Values that are no number of houses.
NO_NUMBERS = (0, 5, -1, 10 ** 39, True, False, None, "2", (2,), [2], {})

JUNK = (None, True, False, -1, 0, 1, 13, 10 ** 39, "", "a", "Ab", "kept", (), ("a",), [], {}, Down(), Bench(known("lazy"), 2, 1))


def spoiled(thing):
    """The value with one part replaced, left out, repeated, or exchanged with the next one."""
    for junk in JUNK:
        yield junk
    if isinstance(thing, bool):
        yield int(thing)
    if isinstance(thing, tuple):
        yield list(thing)
        for k, part in enumerate(thing):
            yield thing[:k] + thing[k + 1:]
            yield thing[:k] + (part,) + thing[k:]
            if k + 1 < len(thing):
                yield thing[:k] + (thing[k + 1], part) + thing[k + 2:]
            for other in spoiled(part):
                yield thing[:k] + (other,) + thing[k + 1:]


def replaced(thing, path, part):
    """The nested tuple with another part at the end of the path."""
    if path == ():
        return part
    k = path[0]
    return thing[:k] + (replaced(thing[k], path[1:], part),) + thing[k + 1:]


def reached(steps_from, behind, first):
    """All standings that can be reached, each with a row of the fewest steps to it."""
    rows = {first: ()}
    queue = [first]
    for standing in queue:
        for step in steps_from(standing):
            other = behind(standing, step)
            if other not in rows:
                rows[other] = rows[standing] + (step,)
                queue.append(other)
    return rows


class Checks(unittest.TestCase):
    def same(self, result, wanted):
        """Equal, and alike in kind: 1 is not True, a list is not a tuple."""
        self.assertEqual(repr(result), repr(wanted))

    def refused(self, error, call, *values, **named):
        """The error that a call raises: of just this class, with just its parameters."""
        with self.assertRaises(error) as caught:
            call(*values, **named)
        self.assertIs(type(caught.exception), error)
        return caught.exception

    def refuses(self, error, thing, call, *values, **named):
        """A call raises an error that carries this very value as thing."""
        raised = self.refused(error, call, *values, **named)
        self.assertEqual(list(vars(raised)), ["thing"])
        self.assertIs(raised.thing, thing)
