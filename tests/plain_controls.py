"""Promises [29] and [30] once more: what the controls let, word by word, and all weavings one by one."""

import functools

import plain
import plain_alone
import plain_tables
from mustwait.histories import log_of
from mustwait.kinds import Kind

NAMES = ("in place", "aside", "stamps", "cube", "orders")


@functools.lru_cache(maxsize=None)
def _table(control, states):
    kind = Kind.of(states)
    return plain_tables.stamp_table(kind) if control == "stamps" else plain_tables.table(kind, control)


def table(control, kind):
    return _table(control, kind.states)


def ended(history, word):
    """The transactions that have committed, or aborted, in the order in which they did."""
    return [thing[1] for thing in history if thing[0] == word]


def got(history, place):
    return [thing for thing in history if thing[0] == "did" and thing[2] == place]


def is_barred(pairs, history, thing):
    """Whether another open transaction has got an event at this object that bars the answer."""
    gone = ended(history, "commit") + ended(history, "abort")
    return any(
        other[1] != thing[1] and other[1] not in gone and (thing[3:], other[3:]) in pairs
        for other in got(history, thing[2])
    )


def lets_in_place(kind, history, thing):
    gone = ended(history, "abort")
    events = [other[3:] for other in got(history, thing[2]) if other[1] not in gone]
    return plain.led(kind, 0, events + [thing[3:]]) is not None


def lets_kept(kind, history, thing):
    events = []
    for number in ended(history, "commit") + [thing[1]]:
        events += [other[3:] for other in got(history, thing[2]) if other[1] == number]
    return plain.led(kind, 0, events + [thing[3:]]) is not None


def things_at(history, place):
    found = []
    for thing in history:
        if thing[0] in ("commit", "abort"):
            found.append(thing)
        elif thing[0] == "did" and thing[2] == place:
            found.append(thing[:2] + thing[3:])
    return tuple(found)


def lets(control, system, history, thing):
    """Whether a control lets an answer behind a history."""
    kind = system[thing[2]]
    if control == "in place":
        return lets_in_place(kind, history, thing) and not is_barred(table(control, kind), history, thing)
    if control in ("aside", "stamps"):
        return lets_kept(kind, history, thing) and not is_barred(table(control, kind), history, thing)
    if control == "cube":
        return plain_alone.lets(kind, things_at(history, thing[2]), thing[1], thing[3], thing[4])
    return plain.is_fine(system, log_of(system, history + (thing,)))


def held_back(control, system, history):
    for at, thing in enumerate(history):
        if thing[0] == "did" and not lets(control, system, history[:at], thing):
            return at
    return None


def walks(programs):
    """All weavings: sequences of the numbers of the programs."""
    left = tuple(len(program) + 1 for program in programs)
    found = [()]
    for _ in range(sum(left)):
        found = [walk + (one,) for walk in found for one in range(len(left)) if walk.count(one) < left[one]]
    return found


def woven(system, programs, control, walk):
    """The history of a weaving, or None if an operation gets no answer."""
    history = (("begin",),) * len(programs)
    for at, number in enumerate(walk):
        step = walk[:at].count(number)
        if step == len(programs[number]):
            history += (("commit", number),)
            continue
        place, operation = programs[number][step]
        answers = [answer for one, answer in system[place].events if one == operation]
        given = [one for one in answers if lets(control, system, history, ("did", number, place, operation, one))]
        if not given:
            return None
        history += (("did", number, place, operation, given[0]),)
    return history


def weavings(system, programs, control):
    found = walks(programs)
    return (len(found), sum(woven(system, programs, control, walk) is not None for walk in found))


def histories(kind, length, most_begun=3):
    """All histories of one object, the shortest ones first."""
    level = [()]
    for _ in range(length + 1):
        yield from level
        level = [history + (thing,) for history in level for thing in nexts(kind, history, most_begun)]


def nexts(kind, history, most_begun):
    begun = sum(thing == ("begin",) for thing in history)
    gone = ended(history, "commit") + ended(history, "abort")
    running = [number for number in range(begun) if number not in gone]
    found = [("begin",)] if begun < most_begun else []
    for number in running:
        found += [("did", number, 0) + event for event in kind.events] + [("commit", number), ("abort", number)]
    return found


def separating(kind, one, other, length):
    """The length of the shortest histories that tell two controls apart, or None."""
    level = [()]
    for size in range(1, length + 1):
        longer = []
        for history in level:
            for thing in nexts(kind, history, 3):
                if thing[0] == "did":
                    if not lets(one, (kind,), history, thing):
                        continue
                    if not lets(other, (kind,), history, thing):
                        return size
                longer.append(history + (thing,))
        level = longer
    return None
