"""What a function needs of its parameters, with the error that each lack of it raises."""

from allshelves.errors import BadNumber, BadProtocol, BadStanding
from allshelves.forms import is_integer_in
from allshelves.roles import has_protocol_form
from allshelves.seats import has_standing_form

MOST_HOUSES = 4


def need_protocol(protocol):
    if not has_protocol_form(protocol):
        raise BadProtocol(protocol)


def need_protocol_for(protocol, n):
    """A protocol, and a number of houses."""
    need_protocol(protocol)
    if not is_integer_in(n, 1, MOST_HOUSES):
        raise BadNumber(n)


def need_standing(protocol, n, standing):
    """A protocol, a number of houses, and a standing of the protocol with them."""
    need_protocol_for(protocol, n)
    if not has_standing_form(protocol, n, standing):
        raise BadStanding(standing)
