"""Ending the deals of a store ([13.5]), in works."""

from allshelves.desks import is_up
from allshelves.things import things_of_deal, with_thing
from allshelves.works import is_open_at, standing_in


def is_ended(work, deal):
    houses, roles = work[2][deal]
    if not all([is_up(work[1][house]) for house in houses]):
        return False
    return all([len(role[5]) > 0 for role in roles]) and not any([is_open_at(work, deal, house) for house in houses])


def what_matters(work, deal):
    """What decides how a deal can go on by its letters and rules alone, once its houses are up."""
    opens = tuple([is_open_at(work, deal, house) for house in work[2][deal][0]])
    return (standing_in(work, deal), opens)


def with_houses_up(work, deal):
    """The pair (run, work) after all houses of a deal that are down have come up.

    What a house becomes by that does not depend on when it happens, and to be ended the
    deal needs all its houses up: so a run that ends it may as well begin with this.
    """
    run = ()
    for house in work[2][deal][0]:
        if not is_up(work[1][house]):
            run = run + (("up", house),)
            work = with_thing(work, ("up", house))
    return (run, work)


def ended_by(work, deal):
    """A pair (run, work) in which the deal has been ended; None if it cannot be."""
    run, work = with_houses_up(work, deal)
    if is_ended(work, deal):
        return (run, work)
    met = {what_matters(work, deal): True}
    level = [(run, work)]
    while len(level) > 0:
        following = []
        for before, start in level:
            for thing in things_of_deal(start, deal):
                after = with_thing(start, thing)
                if is_ended(after, deal):
                    return (before + (thing,), after)
                if what_matters(after, deal) not in met:
                    met[what_matters(after, deal)] = True
                    following.append((before + (thing,), after))
        level = following
    return None


def finished(work):
    """The pair (finishing, deals left) after as many deals as possible have been ended."""
    finishing, left = (), list(range(len(work[2])))
    at = 0
    while at < len(left):
        found = ended_by(work, left[at])
        if found is None:
            at += 1
        else:
            run, work = found
            finishing = finishing + ((left[at], run),)
            left = left[:at] + left[at + 1:]
            # What this deal held may be what an earlier one waits for.
            at = 0
    return (finishing, tuple(left))
