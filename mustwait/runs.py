"""Runs: things that come to objects one by one, orders of them, and runs that fail."""

from mustwait.checks import events_of, is_answer
from mustwait.kinds import is_number
from mustwait.machines import first_beyond, way_between
from mustwait.rows import Rows
from mustwait.searches import found_order
from mustwait.tables import goal_of


def is_run(system, thing):
    """Whether any value is a run of a system."""
    if not isinstance(thing, tuple):
        return False
    events = events_of(system)
    used = {}
    closed = {}
    for part in thing:
        if not _is_thing(events, part) or not _follows(used, closed, part):
            return False
        _take(used, closed, part)
    # Whoever got answers has a commit or an abort at each object where it got some.
    return all([number in closed and len(closed[number][1]) == len(places) for number, places in used.items()])


def _is_thing(events, thing):
    if not isinstance(thing, tuple) or len(thing) not in (3, 5) or not is_number(thing[1]):
        return False
    if len(thing) == 3:
        return (thing[0] == "commit" or thing[0] == "abort") and is_number(thing[2])
    return thing[0] == "did" and is_answer(events, thing[2], thing[3], thing[4])


def _follows(used, closed, thing):
    """Whether a thing may come behind those of which used and closed tell.

    Used has for each transaction the objects where it got answers, closed how
    it has ended so far, and at which objects.
    """
    word, number, place = thing[:3]
    if word == "did":
        return number not in closed
    if place not in used.get(number, {}):
        return False
    return number not in closed or (closed[number][0] == word and place not in closed[number][1])


def _take(used, closed, thing):
    word, number, place = thing[:3]
    if word == "did":
        used.setdefault(number, {})[place] = True
    else:
        _, places = closed.setdefault(number, (word, {}))
        places[place] = True


def run_order(system, run):
    """Any order of the committed transactions of a run that fits, or None if the run fails."""
    rows = Rows(system, _entries(run))
    found = found_order(rows, (tuple([0 for _ in system]),), rows.whole)
    return None if found is None else found[1]


def _entries(run):
    """The committed transactions of a run as entries, each with all those whose last commit came ahead of it."""
    first = {}
    last = {}
    row = {}
    for at, thing in enumerate(run):
        if thing[0] == "did":
            first.setdefault(thing[1], at)
            row.setdefault(thing[1], []).append(thing[2:])
        elif thing[0] == "commit":
            last[thing[1]] = at
    numbers = sorted(last)
    return [(one, True, [other for other in numbers if last[other] < first[one]], tuple(row[one])) for one in numbers]


def sort_of(kind, way, p, q):
    """The sort of a pair of the table in place or aside."""
    for state in kind.reached(0):
        if _fails_alone(kind.moves, way, kind.moves[state], p, q):
            return "abort" if way == "in place" else "commit"
    return "ring"


def _fails_alone(moves, way, row, p, q):
    """Whether a pair can fail at one object, in a state with a row of moves."""
    behind = goal_of(moves, row, q, p)
    if way == "in place":
        return behind is not None and p not in row
    return p in row and q in row and behind is None and goal_of(moves, row, p, q) is None


def failing_run(kind, way, p, q):
    """Any run that fails as the sort of a pair of the table tells, with as few answers as can be."""
    if sort_of(kind, way, p, q) == "ring":
        return _least_ring(kind, way, p, q)
    for state, path in _ways(kind):
        if _fails_alone(kind.moves, way, kind.moves[state], p, q):
            return _short_run(path, way, p, q)
    return None


def _ways(kind):
    """The (state, path) of all reached states with a shortest sequence that leads there, the shortest ones first."""
    found = [(state, way_between(kind.moves, 0, state)) for state in kind.reached(0)]
    return sorted(found, key=lambda pair: (len(pair[1]), pair[0]))


def _short_run(path, way, p, q):
    """A run of one object: behind a first transaction one gets q, and another one p."""
    things = _whole(0, path, (0,)) + _got(1, 0, (q,)) + _got(2, 0, (p,))
    if way == "in place":
        return things + (("commit", 2, 0), ("abort", 1, 0))
    return things + (("commit", 1, 0), ("commit", 2, 0))


def _got(number, place, events):
    return tuple([("did", number, place) + event for event in events])


def _whole(number, events, places):
    """A transaction that gets the same events at some objects and commits."""
    if events == ():
        return ()
    got = [thing for place in places for thing in _got(number, place, events)]
    return tuple(got + [("commit", number, place) for place in places])


def _least_ring(kind, way, p, q):
    least = None
    for state, path in _ways(kind):
        # Behind a longer path no run has fewer answers.
        if least is not None and 2 * len(path) >= least[0]:
            break
        for ending, q_first in _endings(kind.moves, way, kind.moves[state], p, q):
            many = 2 * len(path) + 2 * len(ending)
            if least is None or many < least[0]:
                least = (many, path, ending, q_first)
    _, path, ending, q_first = least
    return _ring(path, ending, q_first, p, q)


def _endings(moves, way, row, p, q):
    """What a last transaction may get in a ring that fails, each with whether q is to come ahead of p then."""
    behind = goal_of(moves, row, q, p)
    turned = goal_of(moves, row, p, q)
    if way == "in place":
        return _told_apart(moves, behind, turned, True)
    if p not in row or q not in row:
        return []
    return _told_apart(moves, behind, turned, True) + _told_apart(moves, turned, behind, False)


def _told_apart(moves, one, other, q_first):
    """The shortest ending that is legal at a state and not at another one; None stands for no state."""
    if one is None:
        return []
    if other is None:
        return [((), q_first)]
    ending = first_beyond(moves, one, moves, other)
    return [] if ending is None else [(ending, q_first)]


def _ring(path, ending, q_first, p, q):
    """A run of two objects: at each one gets q ahead of the other's p, at the second one the other way round."""
    things = _whole(0, path, (0, 1))
    things = things + _got(1, 0, (q,)) + _got(2, 0, (p,)) + _got(2, 1, (q,)) + _got(1, 1, (p,))
    one, other = (1, 2) if q_first else (2, 1)
    # At each object the commits come in the order in which what was got is legal.
    things = things + (("commit", one, 0), ("commit", other, 0), ("commit", other, 1), ("commit", one, 1))
    return things + _whole(3, ending, (0, 1))
