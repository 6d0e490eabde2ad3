"""Standings and steps of one deal (part 2)."""

from allshelves.errors import BadStep, BadSteps
from allshelves.forms import is_flat
from allshelves.moves import all_steps, standing_after, standing_first
from allshelves.needs import need_protocol_for, need_standing
from allshelves.seats import has_standing_form


def first_standing(protocol, n):
    need_protocol_for(protocol, n)
    return standing_first(protocol, n)


def is_standing(protocol, n, thing):
    need_protocol_for(protocol, n)
    return has_standing_form(protocol, n, thing)


def steps_from(protocol, n, standing):
    need_standing(protocol, n, standing)
    return all_steps(protocol, n, standing)


def behind(protocol, n, standing, step):
    need_standing(protocol, n, standing)
    if not can_be_done(protocol, n, standing, step):
        raise BadStep(step)
    return standing_after(protocol, n, standing, step)


def can_be_done(protocol, n, standing, thing):
    """Whether any value is a step that can be done in the standing."""
    return is_flat(thing) and thing in all_steps(protocol, n, standing)


def is_row(protocol, n, thing):
    need_protocol_for(protocol, n)
    return row_end(protocol, n, thing) is not None


def row_end(protocol, n, thing):
    """The standing after a row of steps; None for any value that is no row of steps."""
    if not isinstance(thing, tuple):
        return None
    standing = standing_first(protocol, n)
    for step in thing:
        if not can_be_done(protocol, n, standing, step):
            return None
        standing = standing_after(protocol, n, standing, step)
    return standing


def standing_behind(protocol, n, steps):
    need_protocol_for(protocol, n)
    standing = row_end(protocol, n, steps)
    if standing is None:
        raise BadSteps(steps)
    return standing
