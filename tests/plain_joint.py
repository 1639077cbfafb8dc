"""Promise [22] once more, by a plain look at sets of states and families of them."""

import itertools

import plain


def answered(kind, states):
    """The operations to which all states have an answer."""
    rows = [{operation for operation, _ in plain.moves(kind, state)} for state in states]
    return sorted(set.intersection(*rows))


def led(kind, states, event):
    """The set to which an event leads that all states have, or None."""
    if any(event not in plain.moves(kind, state) for state in states):
        return None
    return tuple(sorted({plain.moves(kind, state)[event] for state in states}))


def all_sets(kind):
    many = range(len(kind.states))
    return [chosen for size in range(1, len(kind.states) + 1) for chosen in itertools.combinations(many, size)]


def greatest_family(kind, sets):
    """The greatest joint family among some sets."""
    family = set(sets)
    while True:
        left = {
            states for states in family if all(
                any(led(kind, states, event) in family for event in kind.events if event[0] == operation)
                for operation in answered(kind, states)
            )
        }
        if left == family:
            return family
        family = left


def joint_sets(kind):
    """All joint sets: the greatest joint family."""
    return greatest_family(kind, all_sets(kind))


def coming(kind, states):
    """The sets to which sequences lead that all states have."""
    def step(found):
        return [goal for goal in (led(kind, found, event) for event in kind.events) if goal is not None]

    return plain.closure([states], step)


def is_joint(kind, states):
    """Whether a set is in a joint family: then in one of the sets that come of it."""
    return states in greatest_family(kind, coming(kind, states))
