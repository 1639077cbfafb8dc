"""The cube: what an object that decides alone keeps of its things, and which answers it gives."""

from mustwait.joint import all_common, split_sets
from mustwait.subsets import subsets


class Sight:
    """What an object keeps of its things, all of whose orders are legal.

    Its numbers are those of the transactions that count and are not settled
    here, ascending; a set of them is a mask: the one with the index k is the
    bit 1 << k. The starts are the states to which the settled ones lead.
    """

    def __init__(self, starts, rows, earlier, closed):
        self.starts = starts
        # For each number, and each state, the state to which its events lead, or None.
        self.rows = rows
        # For each number those of the closed ones that are before it.
        self.earlier = earlier
        # Those that have committed, in the order of their commits.
        self.closed = closed
        self.numbers = tuple(sorted(rows))
        self.bits = {number: 1 << index for index, number in enumerate(self.numbers)}

    def mask(self, numbers):
        """The mask of some numbers."""
        return sum([self.bits[number] for number in numbers])

    def unclosed(self):
        """The numbers of the open ones, ascending."""
        return [number for number in self.numbers if number not in self.closed]

    def reach(self, members):
        """From each mask that orders of some members may begin with to the states that all these reach.

        None if some order is not legal.
        """
        needs = {number: self.mask(self.earlier[number]) for number in members}
        table = {}
        goals = {0: list(self.starts)}
        queue = [0]
        at = 0
        while at < len(queue):
            here = queue[at]
            # A mask stands behind all those with fewer members, so its goals are complete.
            states = tuple(sorted(set(goals[here])))
            table[here] = states
            for number in members:
                if here & self.bits[number] or needs[number] & here != needs[number]:
                    continue
                led = [self.rows[number][state] for state in states]
                if None in led:
                    return None
                more = here | self.bits[number]
                if more not in goals:
                    goals[more] = []
                    queue.append(more)
                goals[more].extend(led)
            at += 1
        return table

    def with_thing(self, kind, thing):
        """What is kept behind one more thing."""
        if thing[0] == "did":
            return self.with_event(kind, thing[1], thing[2:])
        if thing[1] not in self.rows:
            return self
        return self._with_commit(thing[1]) if thing[0] == "commit" else self._with_abort(thing[1])

    def with_event(self, kind, number, event):
        """What is kept once a transaction has got an event."""
        row = self.rows[number] if number in self.rows else tuple(range(len(kind)))
        rows = dict(self.rows)
        rows[number] = tuple([None if state is None else kind.moves[state].get(event) for state in row])
        earlier = dict(self.earlier)
        # Whoever has committed so far is before it now, not only who had at its first answer.
        earlier[number] = self.closed
        return Sight(self.starts, rows, earlier, self.closed)

    def _with_commit(self, number):
        return Sight(self.starts, self.rows, self.earlier, self.closed + (number,))

    def _with_abort(self, number):
        return Sight(self.starts, _without(self.rows, (number,)), _without(self.earlier, (number,)), self.closed)

    def shortened(self):
        """What is kept without those that are settled here; all orders are legal."""
        lot = self._settled()
        if lot == ():
            return self
        starts = self.reach(lot)[self.mask(lot)]
        earlier = {number: before[len(lot):] for number, before in _without(self.earlier, lot).items()}
        return Sight(starts, _without(self.rows, lot), earlier, self.closed[len(lot):])

    def _settled(self):
        """The greatest set of closed ones that are before all others, in the order of the commits."""
        # It is a beginning of that order, for one that is before another one has committed ahead of it.
        for many in reversed(range(len(self.closed) + 1)):
            lot = self.closed[:many]
            others = [number for number in self.numbers if number not in lot]
            if all([self.earlier[number][:many] == lot for number in others]):
                return lot
        return ()


def _without(table, numbers):
    return {number: worth for number, worth in table.items() if number not in numbers}


class Cube:
    """Tells what the cube lets at an object; it remembers which sets of states are joint."""

    def __init__(self, kind, most):
        self.kind = kind
        self.most = most
        self.known_joint = {}

    def first(self):
        """What is kept of no things."""
        return Sight((0,), {}, {}, ())

    def behind(self, sight, thing):
        """What is kept behind one more thing, if all orders are legal then."""
        return sight.with_thing(self.kind, thing).shortened()

    def answers(self, sight, number, operation):
        """The answers to an operation that the cube gives a transaction, ascending."""
        found = []
        for event in self.kind.events:
            if event[0] == operation and self.lets(sight.with_event(self.kind, number, event)):
                found.append(event[1])
        return tuple(found)

    def lets(self, sight):
        """Whether all orders of what is kept are legal, and what each outcome reaches is joint."""
        table = sight.reach(sight.numbers)
        if table is None:
            return False
        closed = sight.mask(sight.closed)
        unclosed = sight.unclosed()
        ends = {table[closed | sight.mask(outcome)]: True for outcome in subsets(unclosed)}
        # All are looked at, also behind one that is not joint, for each one may raise TooMany.
        return all([self._is_joint(states) for states in ends])

    def _is_joint(self, states):
        if states not in self.known_joint:
            table = all_common(self.kind, states, self.most)
            split = split_sets(table)
            for one in table:
                self.known_joint[one] = one not in split
        return self.known_joint[states]
