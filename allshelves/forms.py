"""Plain checks of values of any kind, and tuples put in order."""

ALPHABET = "abcdefghijklmnopqrstuvwxyz"
LONGEST_WORD = 10


def is_integer(thing):
    # Python counts True and False as integers; the store does not.
    return isinstance(thing, int) and not isinstance(thing, bool)


def is_integer_in(thing, low, high):
    return is_integer(thing) and low <= thing <= high


def is_count(thing):
    """Whether any value is an integer of 0 or more."""
    return is_integer(thing) and thing >= 0


def is_word(thing):
    if not isinstance(thing, str) or not 1 <= len(thing) <= LONGEST_WORD:
        return False
    return all([letter in ALPHABET for letter in thing])


def is_tuple_of(thing, many):
    """Whether any value is a tuple of so many items."""
    return isinstance(thing, tuple) and len(thing) == many


def are_all(things, is_right):
    """Whether any value is a tuple of things that are right."""
    return isinstance(things, tuple) and all([is_right(thing) for thing in things])


def are_ascending(items):
    """Whether comparable items are sorted, none of them twice."""
    return all([items[k] < items[k + 1] for k in range(len(items) - 1)])


def ascending(items):
    """The ascending tuple of hashable items."""
    return tuple(sorted(set(items)))


def is_flat(thing):
    """Whether any value is a tuple of integers and strings alone.

    Only such a value may be compared with known ones: (True,) == (1,).
    """
    if not isinstance(thing, tuple):
        return False
    return all([is_integer(item) or isinstance(item, str) for item in thing])


def is_same(thing, wanted):
    """Whether any value equals a wanted one and is of the same kinds throughout.

    The wanted one consists of integers, strings and tuples.
    """
    if isinstance(wanted, tuple):
        return is_tuple_of(thing, len(wanted)) and all([is_same(a, b) for a, b in zip(thing, wanted)])
    if is_integer(wanted) and not is_integer(thing):
        return False
    return thing == wanted
