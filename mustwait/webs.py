"""Story nodes: members, and for each object the set of states to which stories lead.

A set of states is kept as bits: state s is the bit 1 << s. A web tells the steps
between nodes: steps(node) is a list of (index, node), where the index of an
entry is None for transactions to come.
"""

from mustwait.errors import TooMany
from mustwait.machines import reached_from


def bits_of(states):
    """The bits of distinct states."""
    return sum([1 << state for state in states])


def states_of(bits):
    """The ascending tuple of the states of bits."""
    return tuple([state for state in range(bits.bit_length()) if bits >> state & 1])


def sets_of(sets):
    """For each object the ascending tuple of the states of its bits."""
    return tuple([states_of(bits) for bits in sets])


class StoryWeb:
    """Steps between story nodes (mask, sets) of rows.

    The rows of the entries of the mask plain end as they are; those of all
    others may go on with any events.
    """

    def __init__(self, rows, plain):
        self.rows = rows
        self.plain = plain
        self.known_images = {}
        self.known_spreads = {}
        # Many nodes have the same sets: so whole steps are kept, too.
        self.known_moves = [{} for _ in rows.numbers]
        self.known_spread = {}

    def firsts(self, starts):
        """The nodes without members."""
        return [(0, tuple([1 << state for state in start])) for start in starts]

    def steps(self, node):
        """The steps from a node."""
        mask, sets = node
        found = []
        if mask & self.rows.committed == self.rows.committed:
            found.append((None, (mask, self.spread(sets))))
        for index in self.rows.free(mask):
            goal = self.moved(index, sets)
            if goal is not None:
                found.append((index, (mask | 1 << index, goal)))
        return found

    def moved(self, index, sets):
        """The sets to which a step by an entry leads, or None."""
        known = self.known_moves[index]
        if sets not in known:
            known[sets] = self._moved(index, sets)
        return known[sets]

    def _moved(self, index, sets):
        goals = tuple([self._image(index, place, bits) for place, bits in enumerate(sets)])
        if 0 in goals:
            return None
        return goals if self.ends_plainly(index) else self.spread(goals)

    def ends_plainly(self, index):
        """Whether the row of an entry ends as it is."""
        return self.plain >> index & 1 == 1

    def spread(self, sets):
        """The sets to which any sequences lead."""
        known = self.known_spread
        if sets not in known:
            known[sets] = tuple([self._spread_at(place, bits) for place, bits in enumerate(sets)])
        return known[sets]

    def _image(self, index, place, bits):
        key = (index, place, bits)
        if key not in self.known_images:
            goals = [self.rows.moved_at(index, place, state) for state in states_of(bits)]
            distinct = {goal: True for goal in goals if goal is not None}
            self.known_images[key] = bits_of(distinct)
        return self.known_images[key]

    def _spread_at(self, place, bits):
        key = (place, bits)
        if key not in self.known_spreads:
            self.known_spreads[key] = bits_of(reached_from(self.rows.moves[place], states_of(bits)))
        return self.known_spreads[key]


def leads_to(web, starts, goal):
    """Whether steps lead to a node with all entries of a mask."""
    stack = web.firsts(starts)
    known = {node: True for node in stack}
    while stack:
        here = stack.pop()
        if here[0] & goal == goal:
            return True
        for _, node in web.steps(here):
            if node not in known:
                known[node] = True
                stack.append(node)
    return False


class LotWeb:
    """Steps between story nodes (mask, sets, strayed) without a wish, for a lot given as a mask."""

    def __init__(self, web, lot):
        self.web = web
        self.rows = web.rows
        self.lot = lot

    def firsts(self, starts):
        """The nodes without members."""
        return [(mask, sets, False) for mask, sets in self.web.firsts(starts)]

    def steps(self, node):
        """The steps from a node."""
        mask, sets, strayed = node
        return [(index, self._told(goal, strayed)) for index, goal in self.web.steps((mask, sets))]

    def _told(self, goal, strayed):
        mask, sets = goal
        apart = mask & self.lot != mask and mask & self.lot != self.lot
        return (mask, sets, strayed or apart)


def all_nodes(web, starts, most):
    """All nodes of a web to which steps lead, breadth-first: each with the (index, node) from which it came first.

    Raises TooMany if these are more than most; None means any number.
    """
    nodes = {node: None for node in web.firsts(starts)}
    queue = list(nodes)
    at = 0
    while at < len(queue):
        if most is not None and len(queue) > most:
            raise TooMany(most)
        here = queue[at]
        for index, node in web.steps(here):
            if node not in nodes:
                nodes[node] = (index, here)
                queue.append(node)
        at += 1
    return nodes
