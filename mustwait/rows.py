"""Rows: the entries of a log, made ready to be put in order.

A set of entries is a mask: the entry with the index k in the list is the bit 1 << k.
"""

from mustwait.machines import led_by


class Rows:
    """Some entries of a log; of what is before an entry only what is among them counts."""

    def __init__(self, system, entries):
        self.moves = [kind.moves for kind in system]
        self.numbers = tuple([entry[0] for entry in entries])
        self.indices = {number: index for index, number in enumerate(self.numbers)}
        self.needs = [self.mask(entry[2]) for entry in entries]
        self.whole = (1 << len(entries)) - 1
        self.committed = self.mask([entry[0] for entry in entries if entry[1]])
        self.row = [entry[3] for entry in entries]
        self.parts = [_parts(entry[3]) for entry in entries]
        self.known_moves = [{} for _ in entries]
        self.known_members = {}
        self.known_free = {}

    def mask(self, numbers):
        """The mask of those entries that have these numbers."""
        return sum([1 << self.indices[number] for number in numbers if number in self.indices])

    def members(self, mask):
        """The ascending tuple of the numbers of a mask."""
        if mask not in self.known_members:
            chosen = [number for index, number in enumerate(self.numbers) if mask >> index & 1]
            self.known_members[mask] = tuple(chosen)
        return self.known_members[mask]

    def free(self, mask):
        """The indices of the entries that may stand next behind those of a mask."""
        if mask not in self.known_free:
            self.known_free[mask] = [
                index for index, need in enumerate(self.needs) if not mask >> index & 1 and need & mask == need
            ]
        return self.known_free[mask]

    def moved(self, index, states):
        """The states, one for each object, to which the row of an entry leads, or None."""
        known = self.known_moves[index]
        if states not in known:
            known[states] = self._led(index, states)
        return known[states]

    def _led(self, index, states):
        goals = list(states)
        for place, events in self.parts[index].items():
            goals[place] = led_by(self.moves[place], states[place], events)
        return None if None in goals else tuple(goals)

    def moved_at(self, index, place, state):
        """The state to which the row of an entry leads at one object, or None."""
        parts = self.parts[index]
        return led_by(self.moves[place], state, parts[place]) if place in parts else state

    def is_order(self, start, order):
        """Whether entries, by their numbers, stand behind all before them, and fit from a start."""
        mask = 0
        states = start
        for number in order:
            index = self.indices[number]
            if self.needs[index] & mask != self.needs[index]:
                return False
            states = self.moved(index, states)
            if states is None:
                return False
            mask = mask | 1 << index
        return True


def _parts(row):
    """For each object that a row has events of these events."""
    parts = {}
    for place, operation, answer in row:
        parts.setdefault(place, []).append((operation, answer))
    return parts
