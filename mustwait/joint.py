"""Joint sets of states: whatever all states of such a set answer, they can answer as one."""

from mustwait.checks import ascends, is_states_of
from mustwait.errors import TooMany
from mustwait.kinds import MOST


def joint(kind, states, *, most=MOST):
    """Any certificate for or against a set of states being joint."""
    table = all_common(kind, states, most)
    split = split_sets(table)
    if states in split:
        return ("split", _steps_to(table, split, states))
    return ("joint", _choices_from(table, split, states))


class Common:
    """What the states of a set answer as one."""

    def __init__(self, kind):
        self.moves = kind.moves
        self.answered = [{operation: True for operation, _ in row} for row in kind.moves]

    def told(self, states):
        """For each operation that all states answer a dict: from each answer that all have to where it leads."""
        first = states[0]
        shared = [operation for operation in self.answered[first] if self._all_have(self.answered, states, operation)]
        found = {operation: {} for operation in shared}
        for event in self.moves[first]:
            operation, answer = event
            if operation in found and self._all_have(self.moves, states, event):
                found[operation][answer] = tuple(sorted({self.moves[state][event] for state in states}))
        return found

    def _all_have(self, rows, states, key):
        return all([key in rows[state] for state in states])


def all_common(kind, states, most):
    """For each set that comes by events that all states of the set before have, what its states answer as one."""
    common = Common(kind)
    table = {states: None}
    queue = [states]
    at = 0
    while at < len(queue):
        if len(queue) > most:
            raise TooMany(most)
        here = queue[at]
        found = common.told(here)
        table[here] = found
        for goal in _goals(found):
            if goal not in table:
                table[goal] = None
                queue.append(goal)
        at += 1
    return table


def _goals(found):
    return [goal for goals in found.values() for goal in goals.values()]


def split_sets(table):
    """For each set that is not joint the operation that shows it, each behind the sets that show it with it."""
    left = {}
    users = {states: [] for states in table}
    split = {}
    for states, found in table.items():
        for operation, goals in found.items():
            left[states, operation] = len(goals)
            for goal in goals.values():
                users[goal].append((states, operation))
            if not goals and states not in split:
                split[states] = operation
    queue = list(split)
    at = 0
    # Each set is looked at once: so it stays quick when many turn out not to be joint one by one.
    while at < len(queue):
        here = queue[at]
        for states, operation in users[here]:
            left[states, operation] -= 1
            if left[states, operation] == 0 and states not in split:
                split[states] = operation
                queue.append(states)
        at += 1
    return split


def _steps_to(table, split, states):
    """The steps of a certificate against a set: those alone that it needs."""
    needed = {states: True}
    queue = [states]
    at = 0
    while at < len(queue):
        here = queue[at]
        for goal in table[here][split[here]].values():
            if goal not in needed:
                needed[goal] = True
                queue.append(goal)
        at += 1
    return tuple([(one, operation) for one, operation in split.items() if one in needed])


def _choices_from(table, split, states):
    """The choices of a certificate for a set."""
    choices = []
    known = {states: True}
    queue = [states]
    at = 0
    while at < len(queue):
        here = queue[at]
        for operation, goals in table[here].items():
            answer = [one for one, goal in goals.items() if goal not in split][0]
            choices.append((here, operation, answer))
            if goals[answer] not in known:
                known[goals[answer]] = True
                queue.append(goals[answer])
        at += 1
    return tuple(sorted(choices))


def joint_holds(kind, states, thing):
    """Whether any value is a certificate for or against a set of states being joint."""
    if not isinstance(thing, tuple) or len(thing) != 2:
        return False
    if thing[0] == "joint":
        return _are_parts(kind, 3, thing[1]) and _are_choices(kind, states, thing[1])
    return thing[0] == "split" and _are_parts(kind, 2, thing[1]) and _are_steps(kind, states, thing[1])


def _are_parts(kind, many, thing):
    """Whether any value is a tuple of tuples of so many parts: states, and strings."""
    return isinstance(thing, tuple) and all([_is_part(kind, many, part) for part in thing])


def _is_part(kind, many, thing):
    if not isinstance(thing, tuple) or len(thing) != many or not is_states_of(kind, thing[0]):
        return False
    return all([isinstance(word, str) for word in thing[1:]])


def _are_choices(kind, states, choices):
    common = Common(kind)
    answers = {(one, operation): answer for one, operation, answer in choices}
    used = 0
    known = {states: True}
    queue = [states]
    at = 0
    while at < len(queue):
        here = queue[at]
        found = common.told(here)
        for operation, goals in found.items():
            answer = answers.get((here, operation))
            if answer not in goals:
                return False
            used += 1
            if goals[answer] not in known:
                known[goals[answer]] = True
                queue.append(goals[answer])
        at += 1
    # Distinct choices for the same would be more than those used.
    return ascends(choices) and used == len(choices)


def _are_steps(kind, states, steps):
    common = Common(kind)
    done = {}
    for one, operation in steps:
        found = common.told(one)
        if one in done or operation not in found:
            return False
        if not all([goal in done for goal in found[operation].values()]):
            return False
        done[one] = True
    return steps != () and steps[-1][0] == states
