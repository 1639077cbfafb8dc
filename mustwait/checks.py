"""Checks of values of any kind: whether they are built as they should be."""

from mustwait.kinds import is_number


def exactly(thing, wanted):
    """Whether a value is the wanted one; unlike for ==, True and False are no integers."""
    if isinstance(wanted, tuple):
        if not isinstance(thing, tuple) or len(thing) != len(wanted):
            return False
        return all([exactly(part, goal) for part, goal in zip(thing, wanted)])
    return isinstance(thing, bool) == isinstance(wanted, bool) and thing == wanted


def ascends(parts):
    """Whether parts that can be compared are ascending."""
    return all([one < other for one, other in zip(parts, parts[1:])])


def is_numbers(thing):
    """Whether any value is an ascending tuple of integers from 0 on."""
    if not isinstance(thing, tuple) or not all([is_number(part) for part in thing]):
        return False
    return ascends(thing)


def is_state(kind, thing):
    """Whether any value is the number of a state of a kind."""
    return is_number(thing) and thing < len(kind)


def is_states_of(kind, thing):
    """Whether any value is an ascending tuple of states of a kind, not empty."""
    return is_numbers(thing) and thing != () and thing[-1] < len(kind)


def is_start(system, thing):
    """Whether any value is a tuple with a state for each object."""
    if not isinstance(thing, tuple) or len(thing) != len(system):
        return False
    return all([is_state(kind, state) for kind, state in zip(system, thing)])


def events_of(system):
    """For each object its events, to be looked up."""
    return [{event: True for event in kind.events} for kind in system]


def is_answer(events, place, operation, answer):
    """Whether any three values are an object and an event of its kind."""
    if not is_number(place) or place >= len(events):
        return False
    # Looked at first, for a list or a dict cannot be looked up.
    if not isinstance(operation, str) or not isinstance(answer, str):
        return False
    return (operation, answer) in events[place]


def is_row(events, thing):
    """Whether any value is a tuple of (object, operation, answer)."""
    return isinstance(thing, tuple) and all([_is_part(events, part) for part in thing])


def _is_part(events, thing):
    return isinstance(thing, tuple) and len(thing) == 3 and is_answer(events, thing[0], thing[1], thing[2])
