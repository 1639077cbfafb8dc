"""The promises once more, by a plain look through everything: slow, and for small logs alone."""

from itertools import combinations, permutations


def moves(kind, state):
    return {(operation, answer): goal for operation, answer, goal in kind.states[state]}


def led(kind, state, events):
    for event in events:
        if event not in moves(kind, state):
            return None
        state = moves(kind, state)[event]
    return state


def led_all(system, states, row):
    """The states to which a row leads, or None."""
    goals = []
    for place, kind in enumerate(system):
        goals.append(led(kind, states[place], [part[1:] for part in row if part[0] == place]))
    return None if None in goals else tuple(goals)


def beyond(kind, state):
    """All states to which sequences lead from a state."""
    found = {state}
    while True:
        more = found | {goal for one in found for goal in moves(kind, one).values()}
        if more == found:
            return found
        found = more


def subsets(numbers):
    return sorted(chosen for size in range(len(numbers) + 1) for chosen in combinations(sorted(numbers), size))


def entries_of(log):
    return {entry[0]: entry for entry in log[1]}


def committed(log):
    return tuple(entry[0] for entry in log[1] if entry[1])


def opened(log):
    return tuple(entry[0] for entry in log[1] if not entry[1])


def rows_of(log):
    return {entry[0]: entry[3] for entry in log[1]}


# Orders


def stands_behind(log, order):
    entries = entries_of(log)
    return all(
        other in order[:at] for at, number in enumerate(order) for other in entries[number][2] if other in order
    )


def ends(system, log, start, order):
    """The states to which an order leads from a start, or None if it does not fit."""
    return led_all(system, start, [part for number in order for part in rows_of(log)[number]])


def orders(system, log, members):
    return [
        (start, order) for start in log[0] for order in permutations(sorted(members))
        if stands_behind(log, order) and ends(system, log, start, order) is not None
    ]


def has_order(system, log, members):
    return any(
        stands_behind(log, order) and ends(system, log, start, order) is not None
        for start in log[0] for order in permutations(sorted(members))
    )


def outcomes(log):
    return subsets(opened(log))


def unfit(system, log):
    """All outcomes without an order."""
    return [outcome for outcome in outcomes(log) if not has_order(system, log, committed(log) + outcome)]


def is_fine(system, log):
    return unfit(system, log) == []


# Wishes


def possible_answers(system, wish):
    states = system[wish[1]].states
    return sorted({step[1] for state in states for step in state if step[0] == wish[2]})


def with_answer(log, wish, answer):
    number, place, operation = wish
    longer = [
        entry[:3] + (entry[3] + ((place, operation, answer),),) if entry[0] == number else entry for entry in log[1]
    ]
    return (log[0], tuple(longer))


def others(log, wish):
    return tuple(number for number in opened(log) if number != wish[0])


def good_sets(system, log, wish, answer):
    longer = with_answer(log, wish, answer)
    return tuple(
        chosen for chosen in subsets(others(log, wish))
        if has_order(system, longer, committed(log) + (wish[0],) + chosen)
    )


def releases(system, log, wish):
    found = []
    rest = others(log, wish)
    for answer in possible_answers(system, wish):
        good = set(good_sets(system, log, wish, answer))
        if len(good) == 2 ** len(rest):
            return ()
        freeing = []
        for commits in subsets(rest):
            for aborts in subsets([number for number in rest if number not in commits]):
                needed = [s for s in subsets(rest) if set(commits) <= set(s) and not set(aborts) & set(s)]
                if all(chosen in good for chosen in needed):
                    freeing.append((set(commits), set(aborts)))
        found += [
            (answer, tuple(sorted(ins)), tuple(sorted(outs))) for ins, outs in freeing
            if not any((a, b) != (ins, outs) and a <= ins and b <= outs for a, b in freeing)
        ]
    return tuple(sorted(found))


def status(system, log, wish):
    answers = possible_answers(system, wish)
    good = [good_sets(system, log, wish, answer) for answer in answers]
    if any(len(found) == 2 ** len(others(log, wish)) for found in good):
        return "given"
    if any(good):
        return "waits"
    return "later" if has_story(system, log, wish) else "never"


# Stories: looked for with one state for each object, event by event


def story_nodes_alone(system, log, wish, answer, held=()):
    """All (members, states) to which stories lead, with one state for each object, and whether each goes on.

    Those that are held have just their rows.
    """
    number = None if wish is None else wish[0]
    source = log if wish is None else with_answer(log, wish, answer)
    entries = entries_of(source)
    done = set(committed(source))
    found = {(frozenset(), start, False) for start in log[0]}
    queue = list(found)
    steps = {}
    for node in queue:
        members, states, loose = node
        goals = []
        if loose or done <= members:
            for place, kind in enumerate(system):
                for goal in moves(kind, states[place]).values():
                    goals.append((members, states[:place] + (goal,) + states[place + 1:], loose))
        for one, (_, over, earlier, row) in entries.items():
            goal = led_all(system, states, row)
            if one not in members and set(earlier) <= members and goal is not None:
                goals.append((members | {one}, goal, not over and one != number and one not in held))
        steps[node] = goals
        for goal in goals:
            if goal not in found:
                found.add(goal)
                queue.append(goal)
    return steps


def has_story(system, log, wish, held=()):
    for answer in possible_answers(system, wish):
        for members, _, _ in story_nodes_alone(system, log, wish, answer, held):
            if set(committed(log)) | {wish[0]} <= members:
                return True
    return False


def lots(system, log):
    """All lots, by the sets of members through which stories without a wish come."""
    steps = story_nodes_alone(system, log, None, None)
    done = frozenset(committed(log))
    useful = {node for node in steps if done <= node[0]}
    while True:
        more = useful | {node for node in steps if any(goal in useful for goal in steps[node])}
        if more == useful:
            break
        useful = more
    return [
        chosen for chosen in subsets(sorted(done))
        if all(set(chosen) <= node[0] or node[0] <= set(chosen) for node in useful)
    ]


def settled(system, log):
    return max(lots(system, log), key=len)


def alike(kind, one, other):
    """Whether two states are alike: no pair to which the same sequence leads has other events."""
    seen = {(one, other)}
    queue = [(one, other)]
    for left, right in queue:
        if set(moves(kind, left)) != set(moves(kind, right)):
            return False
        for event, goal in moves(kind, left).items():
            pair = (goal, moves(kind, right)[event])
            if pair not in seen:
                seen.add(pair)
                queue.append(pair)
    return True


def first_alike(kind, state):
    return next(one for one in range(len(kind.states)) if alike(kind, one, state))


def folded(system, log):
    lot = settled(system, log)
    found = {ends(system, log, start, order) for start, order in orders(system, log, lot)}
    starts = {tuple(first_alike(kind, state) for kind, state in zip(system, states)) for states in found}
    rest = tuple(
        (number, over, tuple(other for other in earlier if other not in lot), row)
        for number, over, earlier, row in log[1] if number not in lot
    )
    return (tuple(sorted(starts)), rest)


# Nodes, as [14] says


def closure(firsts, step):
    found = set(firsts)
    queue = list(found)
    for node in queue:
        for goal in step(node):
            if goal not in found:
                found.add(goal)
                queue.append(goal)
    return found


def order_steps(system, log, node):
    members, states = node
    goals = []
    for number, _, earlier, row in log[1]:
        goal = led_all(system, states, row)
        if number not in members and set(earlier) <= set(members) and goal is not None:
            goals.append((tuple(sorted(members + (number,))), goal))
    return goals


def order_nodes(system, log):
    return closure([((), start) for start in log[0]], lambda node: order_steps(system, log, node))


def spread(system, sets):
    return tuple(
        tuple(sorted({goal for state in states for goal in beyond(kind, state)})) for kind, states in zip(system, sets)
    )


def image(system, sets, row):
    found = []
    for place, kind in enumerate(system):
        events = [part[1:] for part in row if part[0] == place]
        goals = {led(kind, state, events) for state in sets[place]} - {None}
        found.append(tuple(sorted(goals)))
    return None if () in found else tuple(found)


def story_steps(system, log, number, node):
    """The nodes to which steps lead; the row of the wishing entry has the event of the answer at its end."""
    members, sets = node
    goals = []
    if set(committed(log)) <= set(members):
        goals.append((members, spread(system, sets)))
    for one, over, earlier, row in log[1]:
        goal = image(system, sets, row)
        if one not in members and set(earlier) <= set(members) and goal is not None:
            goals.append((tuple(sorted(members + (one,))), goal if over or one == number else spread(system, goal)))
    return goals


def first_sets(log):
    return [((), tuple((state,) for state in start)) for start in log[0]]


def story_nodes(system, log, number):
    return closure(first_sets(log), lambda node: story_steps(system, log, number, node))


def count_orders(system, log, wish):
    return [len(order_nodes(system, with_answer(log, wish, answer))) for answer in possible_answers(system, wish)]


def count_stories(system, log, wish):
    return [
        len(story_nodes(system, with_answer(log, wish, answer), wish[0])) for answer in possible_answers(system, wish)
    ]
