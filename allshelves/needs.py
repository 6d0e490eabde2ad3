"""What a function needs of its parameters, with the error that each lack of it raises."""

from allshelves.errors import BadNumber, BadProtocol, BadStanding, BadWord
from allshelves.forms import is_integer_in, is_word
from allshelves.pages import MOST_PAGES
from allshelves.roles import has_protocol_form
from allshelves.rows import MOST_HOUSES
from allshelves.seats import has_standing_form


def need_protocol(protocol):
    if not has_protocol_form(protocol):
        raise BadProtocol(protocol)


def need_protocol_for(protocol, n):
    """A protocol, and a number of houses."""
    need_protocol(protocol)
    if not is_integer_in(n, 1, MOST_HOUSES):
        raise BadNumber(n)


def need_standing(protocol, n, standing):
    """A protocol, a number of houses, and a standing of the protocol with them."""
    need_protocol_for(protocol, n)
    if not has_standing_form(protocol, n, standing):
        raise BadStanding(standing)


def need_many(many):
    """A number of pages."""
    if not is_integer_in(many, 1, MOST_PAGES):
        raise BadNumber(many)


def need_word(word):
    if not is_word(word):
        raise BadWord(word)
