"""Searches for orders that fit, without a look through all orders."""


class Search:
    """Tells whether orders of some members, a mask of rows, can go on from a node."""

    def __init__(self, rows, goal):
        self.rows = rows
        self.goal = goal
        self.known = {}
        self.known_alone = {}
        self.known_free = {}

    def free(self, mask):
        """The indices of the members that may stand next behind those of a mask."""
        if mask not in self.known_free:
            self.known_free[mask] = [index for index in self.rows.free(mask) if self.goal >> index & 1]
        return self.known_free[mask]

    def steps(self, mask, states):
        """The (index, mask, states) to which one more member leads, by ascending index."""
        found = []
        for index in self.free(mask):
            goal = self.rows.moved(index, states)
            if goal is not None:
                found.append((index, mask | 1 << index, goal))
        return found

    def leads(self, mask, states):
        """Whether the other members can stand behind those of a mask in some order."""
        node = (mask, states)
        if node not in self.known:
            self.known[node] = self._may_lead(mask, states) and self._goes_on(mask, states)
        return self.known[node]

    def _goes_on(self, mask, states):
        if mask == self.goal:
            return True
        for _, more, goal in self.steps(mask, states):
            if self.leads(more, goal):
                return True
        return False

    def _may_lead(self, mask, states):
        # An object alone has few states: where it allows no order, the others need not be looked at.
        for place, state in enumerate(states):
            if not self._leads_alone(place, mask, state):
                return False
        return True

    def _leads_alone(self, place, mask, state):
        node = (place, mask, state)
        if node not in self.known_alone:
            self.known_alone[node] = self._goes_on_alone(place, mask, state)
        return self.known_alone[node]

    def _goes_on_alone(self, place, mask, state):
        if mask == self.goal:
            return True
        for index in self.free(mask):
            goal = self.rows.moved_at(index, place, state)
            if goal is not None and self._leads_alone(place, mask | 1 << index, goal):
                return True
        return False


def found_orders(rows, starts, members):
    """Yields (start, order) for all orders of a mask of rows that fit, ascending."""
    search = Search(rows, members)
    for start in starts:
        stack = [((), 0, start)]
        while stack:
            order, mask, states = stack.pop()
            # Nothing is gone into that leads to no order: so each one comes soon behind the one before it.
            if not search.leads(mask, states):
                continue
            if mask == members:
                yield (start, order)
            for index, more, goal in reversed(search.steps(mask, states)):
                stack.append((order + (rows.numbers[index],), more, goal))


def found_order(rows, starts, members):
    """The first (start, order) of a mask of rows that fits, or None."""
    for found in found_orders(rows, starts, members):
        return found
    return None


class Memory:
    """Orders of members that have fitted: they are tried again before others are searched for."""

    def __init__(self):
        self.known = {}

    def finds(self, rows, starts, members, number):
        """Whether members have an order that fits, where all but the one with this number had one before."""
        found = self._tried(rows, members, number)
        if found is None:
            found = found_order(rows, starts, rows.mask(members))
        if found is not None:
            self.known[members] = found
        return found is not None

    def _tried(self, rows, members, number):
        for start, order in self._guesses(members, number):
            if rows.is_order(start, order):
                return (start, order)
        return None

    def _guesses(self, members, number):
        guesses = []
        if members in self.known:
            guesses.append(self.known[members])
        others = tuple([other for other in members if other != number])
        if others in self.known:
            start, order = self.known[others]
            for at in reversed(range(len(order) + 1)):
                guesses.append((start, order[:at] + (number,) + order[at:]))
        return guesses
