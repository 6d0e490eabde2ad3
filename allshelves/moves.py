"""What can happen to one deal ([1.2], [2.2]). Nothing is checked here.

What a house can do and then becomes is found from its own seat and from the
letters alone ([3.3]): no function here looks at the seat of another house.
"""

from allshelves.forms import ascending
from allshelves.seats import role_at


def standing_first(protocol, n):
    seats = [first_seat(role_at(protocol, h)) for h in range(n)]
    return (tuple(seats), ())


def first_seat(role):
    return (0, (), (), 0, True, -1, True, told_also((), end_of(role, 0)))


def end_of(role, state):
    return role[0][state][0]


def told_also(told, end):
    return told if end == "" else ascending(told + (end,))


def all_steps(protocol, n, standing):
    """The ascending tuple of the steps that can be done."""
    seats, sent = standing
    steps = []
    for h in range(n):
        steps.extend(steps_at(role_at(protocol, h), n, h, seats[h], sent))
    return ascending(steps)


def steps_at(role, n, h, seat, sent):
    """The steps of the house h."""
    state, heard, log, forced = seat[:4]
    if state == -1:
        return [("up", h)]
    steps = [("fall", h, left) for left in range(forced, len(log) + 1)]
    if forced < len(log):
        steps.append(("force", h))
    for sender, to, kind in sent:
        if to == h and (sender, kind) not in heard:
            steps.append(("hear", h, sender, kind))
    for r, rule in enumerate(role[0][state][1]):
        if does_apply(rule[0], n, h, seat):
            steps.append(("rule", h, r))
    return steps


def does_apply(cause, n, h, seat):
    if cause[0] == "able":
        return seat[4]
    if cause[0] == "each":
        return all(were_heard(cause[1], n, h, seat))
    if cause[0] == "some":
        return any(were_heard(cause[1], n, h, seat))
    return True


def were_heard(kind, n, h, seat):
    """For each other house, whether a letter of this kind was heard from it."""
    return [(other, kind) in seat[1] for other in range(n) if other != h]


def standing_after(protocol, n, standing, step):
    """The standing after a step that can be done."""
    seats, sent = standing
    h = step[1]
    role = role_at(protocol, h)
    if step[0] == "rule":
        rule = role[0][seats[h][0]][1][step[2]]
        sent = ascending(sent + letters_of(rule, n, h))
    seat = seat_after(role, seats[h], step)
    return (seats[:h] + (seat,) + seats[h + 1:], sent)


def letters_of(rule, n, h):
    """The letters that the house h sends by a rule."""
    letters = [(h, other, kind) for kind, to in rule[3] for other in houses_meant(to, n)]
    return tuple([letter for letter in letters if letter[1] != h])


def houses_meant(to, n):
    if to == "leader":
        return [0]
    return list(range(1, n)) if to == "members" else list(range(n))


def seat_after(role, seat, step):
    if step[0] == "rule":
        return seat_after_rule(role, seat, role[0][seat[0]][1][step[2]])
    if step[0] == "hear":
        return seat_after_letter(seat, step[2:])
    if step[0] == "force":
        return seat_after_force(seat)
    if step[0] == "fall":
        return seat_after_fall(seat, step[2])
    return seat_after_up(role, seat)


def seat_after_rule(role, seat, rule):
    _, heard, log, forced, able, said, whole, told = seat
    cause, mark, is_forced, _, goal = rule
    if cause == ("able",) and said == -1:
        said = len(log)
    if mark != "" and mark not in log:
        log = log + (mark,)
    if is_forced:
        forced = len(log)
    return (goal, heard, log, forced, able, said, whole, told_also(told, end_of(role, goal)))


def seat_after_letter(seat, letter):
    return seat[:1] + (ascending(seat[1] + (letter,)),) + seat[2:]


def seat_after_force(seat):
    return seat[:3] + (len(seat[2]),) + seat[4:]


def seat_after_fall(seat, left):
    _, _, log, _, _, said, whole, told = seat
    # What the deal wrote lies before the first mark written since it was able.
    still_whole = whole and said != -1 and left > said
    return (-1, (), log[:left], left, False, said, still_whole, told)


def seat_after_up(role, seat):
    log, told = seat[2], seat[7]
    mark = log[-1] if len(log) > 0 else ""
    state = dict(role[1])[mark]
    return (state,) + seat[1:7] + (told_also(told, end_of(role, state)),)
