"""Promises [25] to [28] once more, by a plain look at all reached states, sets of events and orders."""

from itertools import combinations, permutations

import plain
import plainly


def legal_beyond(kind, one, other, events=None):
    """A shortest sequence that is legal at a state and not at another one, or None."""
    chosen = kind.events if events is None else events
    paths = {(one, other): ()}
    queue = [(one, other)]
    for here, there in queue:
        for event in chosen:
            mine, theirs = plain.moves(kind, here), plain.moves(kind, there)
            if event in mine and event not in theirs:
                return paths[here, there] + (event,)
            if event in mine:
                goal = (mine[event], theirs[event])
                if goal not in paths:
                    paths[goal] = paths[here, there] + (event,)
                    queue.append(goal)
    return None


def reached(kind):
    return sorted(plain.beyond(kind, 0))


def bars_in_place(kind, state, p, q):
    behind, turned = plain.led(kind, state, (q, p)), plain.led(kind, state, (p, q))
    if behind is None:
        return False
    return turned is None or legal_beyond(kind, behind, turned) is not None


def bars_aside(kind, state, p, q):
    if plain.led(kind, state, (p,)) is None or plain.led(kind, state, (q,)) is None:
        return False
    behind, turned = plain.led(kind, state, (q, p)), plain.led(kind, state, (p, q))
    return behind is None or turned is None or not plain.alike(kind, behind, turned)


BARS = {"in place": bars_in_place, "aside": bars_aside}


def table(kind, way):
    bars = BARS[way]
    return tuple(
        (p, q) for p in kind.events for q in kind.events if any(bars(kind, state, p, q) for state in reached(kind))
    )


def is_safe(kind, event, chosen):
    for state in reached(kind):
        goal = plain.led(kind, state, (event,))
        if goal is not None and legal_beyond(kind, state, goal, chosen) is not None:
            return False
    return True


def safe_sets(kind, event):
    sets = [chosen for size in range(len(kind.events) + 1) for chosen in combinations(kind.events, size)]
    safe = [set(chosen) for chosen in sets if is_safe(kind, event, chosen)]
    return tuple(sorted(tuple(sorted(one)) for one in safe if not any(one < other for other in safe)))


def stamp_table(kind, choices=()):
    chosen = {event: safe_sets(kind, event)[0] for event in kind.events}
    chosen.update(dict(choices))
    return tuple((p, q) for p in kind.events for q in kind.events if not (q in chosen[p] and p in chosen[q]))


def modes(table, events):
    def same(e, f):
        return all(
            ((e, x) in table) == ((f, x) in table) and ((x, e) in table) == ((x, f) in table) for x in events
        )

    return tuple(sorted({tuple(sorted(f for f in events if same(e, f))) for e in events}))


# Runs


def is_run(system, thing):
    if type(thing) is not tuple:
        return False
    for part in thing:
        if type(part) is not tuple or len(part) not in (3, 5) or type(part[0]) is not str:
            return False
        if any(not plainly.is_int(one) or one < 0 for one in part[1:3]) or part[2] >= len(system):
            return False
        if len(part) == 5 and not (part[0] == "did" and any(plainly.same(part[3:], e) for e in system[part[2]].events)):
            return False
        if len(part) == 3 and part[0] not in ("commit", "abort"):
            return False
    return all(_is_whole(thing, number) for number in {part[1] for part in thing})


def _is_whole(run, number):
    mine = [part for part in run if part[1] == number]
    got = [part for part in mine if part[0] == "did"]
    ends = mine[len(got):]
    if mine[:len(got)] != got or len({part[0] for part in ends}) != 1:
        return False
    return sorted(part[2] for part in ends) == sorted({part[2] for part in got})


def committed(run):
    return sorted({part[1] for part in run if part[0] == "commit"})


def is_run_order(system, run, order):
    first = {number: min(at for at, part in enumerate(run) if part[1] == number) for number in order}
    last = {number: max(at for at, part in enumerate(run) if part[1] == number) for number in order}
    for at, one in enumerate(order):
        if any(last[other] < first[one] for other in order[at + 1:]):
            return False
    row = [part[2:] for number in order for part in run if part[:2] == ("did", number)]
    return plain.led_all(system, (0,) * len(system), row) is not None


def run_orders(system, run):
    return [order for order in permutations(committed(run)) if is_run_order(system, run, order)]


def sort_of(kind, way, p, q):
    for state in reached(kind):
        if way == "in place":
            if plain.led(kind, state, (q, p)) is not None and plain.led(kind, state, (p,)) is None:
                return "abort"
        elif plain.led(kind, state, (p,)) is not None and plain.led(kind, state, (q,)) is not None:
            if plain.led(kind, state, (p, q)) is None and plain.led(kind, state, (q, p)) is None:
                return "commit"
    return "ring"


# Failing runs, as [27] tells them


def answers_of(run, number):
    return [part for part in run if part[:2] == ("did", number)]


def got_at(run, number, place):
    return [part[3:] for part in run if part[:3] == ("did", number, place)]


def is_as_told(kind, way, p, q, run):
    """Whether a run is as [27] tells it for the sort of a pair; it must fail, which is looked at by itself."""
    sort = sort_of(kind, way, p, q)
    numbers = list(dict.fromkeys(part[1] for part in run))
    places = [0, 1] if sort == "ring" else [0]
    rest = list(run)
    head = []
    # The first transaction stands whole ahead of all else, if there is one.
    first = numbers[0]
    whole = [part for part in run if part[1] == first]
    path = ()
    if rest[:len(whole)] == whole:
        if any(got_at(run, first, place) != got_at(run, first, 0) for place in places):
            return False
        if {part[0] for part in whole} != {"did", "commit"} or not got_at(run, first, 0):
            return False
        path = tuple(got_at(run, first, 0))
        head = whole
        numbers = numbers[1:]
    rest = rest[len(head):]
    state = plain.led(kind, 0, path)
    if state is None or len(numbers) < 2:
        return False
    if sort != "ring":
        return is_short_rest(way, p, q, state, kind, rest)
    return is_ring_rest(way, p, q, state, kind, rest)


def is_short_rest(way, p, q, state, kind, rest):
    if len(rest) != 4:
        return False
    one, other = rest[0][1], rest[1][1]
    if one == other or rest[:2] != [("did", one, 0) + q, ("did", other, 0) + p]:
        return False
    if way == "in place":
        fits = plain.led(kind, state, (q, p)) is not None and plain.led(kind, state, (p,)) is None
        return fits and sorted(rest[2:]) == sorted([("commit", other, 0), ("abort", one, 0)])
    legal = [plain.led(kind, state, events) is not None for events in ((p,), (q,), (p, q), (q, p))]
    return legal == [True, True, False, False] and sorted(rest[2:]) == sorted([("commit", one, 0), ("commit", other, 0)])


def is_ring_rest(way, p, q, state, kind, rest):
    one, other = rest[0][1], rest[1][1]
    got = [("did", one, 0) + q, ("did", other, 0) + p, ("did", other, 1) + q, ("did", one, 1) + p]
    ends = rest[4:8]
    told = [("commit", number, place) for number in (one, other) for place in (0, 1)]
    if one == other or rest[:4] != got or sorted(ends) != sorted(told):
        return False
    last = rest[8:]
    behind, turned = plain.led(kind, state, (q, p)), plain.led(kind, state, (p, q))
    if behind is not None and turned is not None:
        ending = is_last(last, (one, other))
        if not ending:
            return False
        legal = [plain.led(kind, goal, ending) is not None for goal in (behind, turned)]
        if way == "in place":
            return legal == [True, False]
        return legal[0] != legal[1] and legal_in_commits(kind, state, rest, ends, p, q, ending)
    if last:
        return False
    if way == "in place":
        return behind is not None
    return legal_in_commits(kind, state, rest, ends, p, q, ())


def is_last(last, others):
    """What a last transaction gets at both objects, if it is one."""
    numbers = {part[1] for part in last}
    if len(numbers) != 1 or numbers & set(others):
        return None
    number = numbers.pop()
    if got_at(last, number, 0) != got_at(last, number, 1) or {part[0] for part in last} != {"did", "commit"}:
        return None
    return tuple(got_at(last, number, 0))


def legal_in_commits(kind, state, rest, ends, p, q, ending):
    """Whether at both objects what was got is legal in the order of the commits."""
    for place in (0, 1):
        order = [part[1] for part in ends if part[2] == place]
        events = [event for number in order for event in got_at(rest[:4], number, place)]
        if plain.led(kind, state, tuple(events) + ending) is None:
            return False
    return True


def sequences(kind, state, most):
    """All sequences that are legal at a state, by their lengths."""
    level = [((), state)]
    for _ in range(most + 1):
        yield from level
        level = [(path + (event,), goal) for path, here in level for event, goal in plain.moves(kind, here).items()]


def fewest_answers(kind, way, p, q, most):
    """The fewest answers of a run as [27] tells it, by a plain look at short sequences; None beyond most."""
    sort = sort_of(kind, way, p, q)
    found = []
    for path, state in sequences(kind, 0, most):
        behind, turned = plain.led(kind, state, (q, p)), plain.led(kind, state, (p, q))
        if sort == "abort" and behind is not None and plain.led(kind, state, (p,)) is None:
            found.append(len(path) + 2)
        if sort == "commit" and sort_of_state(kind, state, p, q):
            found.append(len(path) + 2)
        if sort == "ring":
            ending = shortest_ending(kind, way, state, p, q, behind, turned)
            if ending is not None:
                found.append(2 * len(path) + 4 + 2 * len(ending))
    return min(found, default=None)


def sort_of_state(kind, state, p, q):
    legal = [plain.led(kind, state, events) is not None for events in ((p,), (q,), (p, q), (q, p))]
    return legal == [True, True, False, False]


def shortest_ending(kind, way, state, p, q, behind, turned):
    if way == "in place":
        if behind is None:
            return None
        return () if turned is None else legal_beyond(kind, behind, turned)
    if plain.led(kind, state, (p,)) is None or plain.led(kind, state, (q,)) is None:
        return None
    if behind is None or turned is None:
        return ()
    both = [legal_beyond(kind, behind, turned), legal_beyond(kind, turned, behind)]
    return min((one for one in both if one is not None), key=len, default=None)
