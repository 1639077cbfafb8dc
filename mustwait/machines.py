"""Machines: where the sequences of events lead.

A machine is a tuple of states, each a tuple of (operation, answer, next) in
ascending order. Its moves are a list with a dict for each state: from each
event of the state, in the same order, to the next state.
"""


def moves_of(states):
    """The moves of a machine."""
    return [{(operation, answer): goal for operation, answer, goal in state} for state in states]


def led_by(moves, state, events):
    """The state to which the events lead, or None if they are not legal."""
    for event in events:
        if event not in moves[state]:
            return None
        state = moves[state][event]
    return state


def reached_from(moves, starts):
    """The ascending tuple of all states to which sequences lead from the starts."""
    found = sorted(set(starts))
    seen = {state: True for state in found}
    at = 0
    while at < len(found):
        state = found[at]
        for goal in moves[state].values():
            if goal not in seen:
                seen[goal] = True
                found.append(goal)
        at += 1
    return tuple(sorted(found))


def way_between(moves, one, other):
    """A shortest sequence of events that leads from a state to another one, or None."""
    ways = {one: ()}
    states = [one]
    at = 0
    while at < len(states) and other not in ways:
        state = states[at]
        for event, goal in moves[state].items():
            if goal not in ways:
                ways[goal] = ways[state] + (event,)
                states.append(goal)
        at += 1
    return ways.get(other)


def first_beyond(mine, one, theirs, other):
    """The first sequence that is legal at a state and not at another one, or None.

    First are the shortest ones, and of these the first as tuples of events
    compare. The states may be of two machines, with the moves mine and theirs.
    """
    pairs = [(one, other)]
    paths = {(one, other): ()}
    at = 0
    # Pairs come in the order of their first paths, since each dict of moves is
    # in the order of the events: so the first sequence found is the first of all.
    while at < len(pairs):
        here, there = pairs[at]
        path = paths[here, there]
        for event, goal in mine[here].items():
            if event not in theirs[there]:
                return path + (event,)
            pair = (goal, theirs[there][event])
            if pair not in paths:
                paths[pair] = path + (event,)
                pairs.append(pair)
        at += 1
    return None


def first_difference(mine, theirs):
    """The first sequence that is legal at state 0 of exactly one of two machines, or None."""
    both = [first_beyond(mine, 0, theirs, 0), first_beyond(theirs, 0, mine, 0)]
    found = [path for path in both if path is not None]
    return min(found, key=lambda path: (len(path), path), default=None)


def classes(states):
    """A number for each state of a machine, the same for two states exactly if they are alike."""
    marks = [0] * len(states)
    many = 1
    # Each round tells apart what differs one step later; it is over when a
    # round tells no more apart than the one before it.
    while True:
        rows = [_marked(state, marks) for state in states]
        numbers = _numbered(rows)
        if len(numbers) == many:
            return marks
        many = len(numbers)
        marks = [numbers[row] for row in rows]


def _marked(state, marks):
    return tuple([(operation, answer, marks[goal]) for operation, answer, goal in state])


def _numbered(rows):
    numbers = {}
    for row in rows:
        if row not in numbers:
            numbers[row] = len(numbers)
    return numbers


def least_states(states):
    """The states of the least machine: one for each class of alike reached states."""
    marks = classes(states)
    numbers = {marks[0]: 0}
    heads = [0]
    rows = []
    # A class is numbered when it is met, and the classes are looked through in
    # the order of their numbers: that is the breadth-first order.
    while len(rows) < len(heads):
        row = []
        head = heads[len(rows)]
        for operation, answer, goal in states[head]:
            mark = marks[goal]
            if mark not in numbers:
                numbers[mark] = len(heads)
                heads.append(goal)
            row.append((operation, answer, numbers[mark]))
        rows.append(tuple(row))
    return tuple(rows)


def allowed_pairs(moves):
    """For each state a list that tells of each other one whether each sequence legal there is legal here, too."""
    many = len(moves)
    allowed = [[True] * many for _ in range(many)]
    users = {}
    queue = []
    for one in range(many):
        for other in range(many):
            goals = [(moves[one].get(event), goal) for event, goal in moves[other].items()]
            if None in [goal for goal, _ in goals]:
                allowed[one][other] = False
                queue.append((one, other))
            for pair in goals:
                users.setdefault(pair, []).append((one, other))
    at = 0
    # Each pair is looked at once: what leads to a pair that is not allowed is not allowed either.
    while at < len(queue):
        for one, other in users.get(queue[at], []):
            if allowed[one][other]:
                allowed[one][other] = False
                queue.append((one, other))
        at += 1
    return allowed
