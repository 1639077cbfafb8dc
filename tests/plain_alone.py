"""Promises [20] to [24] once more, by a plain look through all orders and families."""

import plain
import plain_joint
import plainly


def is_things(kind, thing):
    if type(thing) is not tuple:
        return False
    for at, part in enumerate(thing):
        if type(part) is not tuple or len(part) < 2 or type(part[0]) is not str:
            return False
        if not plainly.is_int(part[1]) or part[1] < 0:
            return False
        if any(plainly.same(one[1], part[1]) and one[0] != "did" for one in thing[:at]):
            return False
        if part[0] == "did":
            if len(part) != 4 or not any(plainly.same(part[2:], event) for event in kind.events):
                return False
        elif part[0] not in ("commit", "abort") or len(part) != 2:
            return False
    return True


def rows(things):
    """The events of each transaction that counts."""
    found = {}
    for thing in things:
        if thing[0] == "did":
            found.setdefault(thing[1], []).append(thing[2:])
    for thing in things:
        if thing[0] == "abort":
            found.pop(thing[1], None)
    return found


def committed(things):
    return [number for number in rows(things) if ("commit", number) in things]


def running(things):
    return [number for number in rows(things) if ("commit", number) not in things]


def is_before(things, one, other):
    if ("commit", one) not in things:
        return False
    behind = things[things.index(("commit", one)):]
    return any(thing[:2] == ("did", other) for thing in behind)


def orders(things, members):
    """All orders of members in which each one stands behind all that are before it here."""
    over = {one: {other for other in members if is_before(things, other, one)} for one in members}
    found = [()]
    for _ in members:
        found = [
            order + (one,) for order in found for one in members if one not in order and over[one] <= set(order)
        ]
    return found


def ends(kind, things, outcome):
    """The states to which the orders of an outcome lead, with None for those that are not legal."""
    events = rows(things)
    members = sorted(committed(things)) + list(outcome)
    return {plain.led(kind, 0, [event for one in order for event in events[one]]) for order in orders(things, members)}


def outcomes(things):
    return plain.subsets(running(things))


def is_sound_now(kind, things):
    return all(None not in ends(kind, things, outcome) for outcome in outcomes(things))


def is_sound(kind, things):
    return all(is_sound_now(kind, things[:many]) for many in range(len(things) + 1))


def reaches(kind, things, outcome):
    return tuple(sorted(ends(kind, things, outcome)))


def possible(kind, operation):
    return [answer for one, answer in kind.events if one == operation]


def lets(kind, things, number, operation, answer):
    longer = things + (("did", number, operation, answer),)
    if not is_sound_now(kind, longer):
        return False
    return all(plain_joint.is_joint(kind, reaches(kind, longer, outcome)) for outcome in outcomes(longer))


def cube_answers(kind, things, number, operation):
    return tuple(answer for answer in possible(kind, operation) if lets(kind, things, number, operation, answer))


def most_sets(kind, things, number, operation):
    """The greatest number of sets that come of what some outcome reaches, behind answers that are sound alone."""
    found = 0
    for answer in possible(kind, operation):
        longer = things + (("did", number, operation, answer),)
        if is_sound_now(kind, longer):
            for outcome in outcomes(longer):
                found = max(found, len(plain_joint.coming(kind, reaches(kind, longer, outcome))))
    return found


def settled(things):
    """The greatest set of committed ones each of which is before all others that are not in it."""
    numbers = list(rows(things))
    sets = [
        chosen for chosen in plain.subsets(committed(things))
        if all(is_before(things, one, other) for one in chosen for other in numbers if other not in chosen)
    ]
    return max(sets, key=len)


def kept(things):
    return tuple(sorted(set(rows(things)) - set(settled(things))))
