"""Tales: all story nodes of a web, and a story that leads to one of them."""

from mustwait.machines import way_between
from mustwait.webs import all_nodes, sets_of, states_of


class Tales:
    """All nodes of a story web; raises TooMany if these are more than most (None: any number)."""

    def __init__(self, web, starts, goal, most):
        self.web = web
        self.rows = web.rows
        self.goal = goal
        self.nodes = all_nodes(web, starts, most)

    def end(self):
        """The first node with all entries of the goal, or None: then there is no story."""
        for node in self.nodes:
            if node[0] & self.goal == self.goal:
                return node
        return None

    def listed(self):
        """The ascending tuple of the nodes (members, states)."""
        return tuple(sorted([(self.rows.members(mask), sets_of(sets)) for mask, sets in self.nodes]))

    def story(self):
        """A story (start, steps) that leads to the end."""
        node = self.end()
        states = [states_of(bits)[0] for bits in node[1]]
        steps = ()
        # From the end back: each step tells from which states it leads to those behind it.
        while self.nodes[node] is not None:
            index, node = self.nodes[node]
            back = [self._back(index, place, bits, states[place]) for place, bits in enumerate(node[1])]
            states = [state for state, _ in back]
            steps = self._told(index, [further for _, further in back]) + steps
        return (tuple(states), steps)

    def _back(self, index, place, bits, goal):
        """One of some states from which a step leads to a goal at one object, and its further events there."""
        for state in states_of(bits):
            further = self._further(index, place, state, goal)
            if further is not None:
                return (state, further)
        return None

    def _further(self, index, place, state, goal):
        """The further events with which a step leads from a state to a goal, or None if none do."""
        if index is None:
            return way_between(self.rows.moves[place], state, goal)
        middle = self.rows.moved_at(index, place, state)
        if middle is None:
            return None
        if self.web.ends_plainly(index):
            return () if middle == goal else None
        return way_between(self.rows.moves[place], middle, goal)

    def _told(self, index, ways):
        """The steps of a story, one or none, by an entry with its further events at each object."""
        further = tuple([(place,) + event for place, events in enumerate(ways) for event in events])
        if index is not None:
            return ((self.rows.numbers[index], self.rows.row[index] + further),)
        return ((None, further),) if further else ()
