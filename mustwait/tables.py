"""Tables: which events are not answered while another open transaction has got which ones."""

from mustwait.errors import TooMany
from mustwait.kinds import MOST
from mustwait.machines import allowed_pairs, classes


def in_place(kind):
    """The table of events that are done at once."""
    allowed = allowed_pairs(kind.moves)
    return _table(kind, lambda row, p, q: _bars_in_place(kind.moves, allowed, row, p, q))


def aside(kind):
    """The table of events that are kept until commits."""
    marks = classes(kind.states)
    return _table(kind, lambda row, p, q: _bars_aside(kind.moves, marks, row, p, q))


def _table(kind, bars):
    """The ascending tuple of the pairs of events that are barred at some reached state."""
    rows = [kind.moves[state] for state in kind.reached(0)]
    events = kind.events
    return tuple([(p, q) for p in events for q in events if any([bars(row, p, q) for row in rows])])


def _bars_in_place(moves, allowed, row, p, q):
    behind = goal_of(moves, row, q, p)
    if behind is None:
        return False
    turned = goal_of(moves, row, p, q)
    return turned is None or not allowed[turned][behind]


def _bars_aside(moves, marks, row, p, q):
    if p not in row or q not in row:
        return False
    behind = goal_of(moves, row, q, p)
    turned = goal_of(moves, row, p, q)
    return behind is None or turned is None or marks[behind] != marks[turned]


def goal_of(moves, row, one, other):
    """The state to which two events lead from a state with a row of moves, or None."""
    return moves[row[one]].get(other) if one in row else None


class Safety:
    """Tells which sets of events are safe for an event."""

    def __init__(self, kind, event):
        self.moves = kind.moves
        self.pairs = [(state, kind.moves[state][event]) for state in kind.reached(0) if event in kind.moves[state]]

    def danger(self, chosen):
        """Some of the chosen events, no set with all of which is safe, or None if the chosen ones are safe."""
        paths = {pair: () for pair in self.pairs}
        queue = list(self.pairs)
        at = 0
        while at < len(queue):
            one, other = queue[at]
            path = paths[one, other]
            for event in chosen:
                if event in self.moves[one] and event not in self.moves[other]:
                    return path + (event,)
                if event in self.moves[one]:
                    pair = (self.moves[one][event], self.moves[other][event])
                    if pair not in paths:
                        paths[pair] = path + (event,)
                        queue.append(pair)
            at += 1
        return None

    def first_greatest(self, events):
        """The first greatest safe set of some events, ascending, as tuples compare."""
        chosen = ()
        # Each event is taken that can be: so no other greatest set has a lesser event where the two part.
        for event in events:
            if self.danger(chosen + (event,)) is None:
                chosen = chosen + (event,)
        return chosen


def safe_sets(kind, event, *, most=MOST):
    """The greatest safe sets of an event, ascending, as ascending tuples of events."""
    safety = Safety(kind, event)
    found = []
    queue = [kind.events]
    known = {kind.events: True}
    at = 0
    # The greater sets come ahead of the lesser ones: so one that is safe is among the greatest,
    # unless it is contained in one that has been found.
    while at < len(queue):
        here = queue[at]
        at += 1
        if _is_within_one(here, found):
            continue
        danger = safety.danger(here)
        if danger is None:
            found.append(here)
            if len(found) > most:
                raise TooMany(most)
        else:
            for less in [_without(here, event) for event in danger]:
                if less not in known:
                    known[less] = True
                    queue.append(less)
    return tuple(sorted(found))


def _is_within_one(chosen, sets):
    """Whether some set has all of the chosen events."""
    return any([all([event in one for event in chosen]) for one in sets])


def _without(chosen, event):
    return tuple([other for other in chosen if other != event])


def stamp_table(kind, choices=()):
    """The table of stamps, with the chosen safe sets, or the first greatest ones."""
    events = kind.events
    chosen = {event: taken for event, taken in choices}
    for event in events:
        if event not in chosen:
            chosen[event] = Safety(kind, event).first_greatest(events)
    return tuple([(p, q) for p in events for q in events if q not in chosen[p] or p not in chosen[q]])


def modes(table, events):
    """The classes of events with the same row and the same column among them, ascending."""
    barred = {pair: True for pair in table}
    groups = {}
    for event in sorted(events):
        key = tuple([((event, other) in barred, (other, event) in barred) for other in events])
        groups.setdefault(key, []).append(event)
    return tuple(sorted([tuple(group) for group in groups.values()]))
