"""The form of the certificates of parts 3 and 4."""

from allshelves.forms import is_integer, is_tuple_of
from allshelves.standings import row_end


def has_verdict_form(protocol, n, thing, words):
    """Whether any value is the first word with a number, or the second with a row of steps."""
    if not is_tuple_of(thing, 2):
        return False
    if thing[0] == words[0]:
        return is_integer(thing[1])
    return thing[0] == words[1] and row_end(protocol, n, thing[1]) is not None
