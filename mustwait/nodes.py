"""Order nodes: members and states to which steps by the entries of a log lead."""

from mustwait.errors import TooMany


class OrderNodes:
    """The smallest closed tuple of order nodes with all entries of rows as members.

    Raises TooMany if these are more than most.
    """

    def __init__(self, rows, starts, most):
        self.rows = rows
        # For each mask the states to which its orders lead, each with the step that led there first.
        self.table = {0: {start: None for start in starts}}
        self.many = len(starts)
        self._grow(most)

    def _grow(self, most):
        masks = [0]
        at = 0
        # Masks come by their sizes, so all steps to a mask are taken ahead of those from it.
        while at < len(masks):
            if self.many > most:
                raise TooMany(most)
            mask = masks[at]
            free = self.rows.free(mask) if self.table[mask] else []
            for index in free:
                more = mask | 1 << index
                if more not in self.table:
                    self.table[more] = {}
                    masks.append(more)
                self._step(mask, index, more)
            at += 1

    def _step(self, mask, index, more):
        """Takes the steps by an entry from all nodes of a mask."""
        goals = self.table[more]
        before = len(goals)
        for states in list(self.table[mask]):
            goal = self.rows.moved(index, states)
            if goal is not None and goal not in goals:
                goals[goal] = (index, states)
        self.many += len(goals) - before

    def reaches(self, mask):
        """Whether some node has just the entries of a mask."""
        return mask in self.table and len(self.table[mask]) > 0

    def reached(self, base):
        """The masks with all entries of another one that some node has."""
        return [mask for mask, goals in self.table.items() if mask & base == base and goals]

    def ends(self, mask):
        """The states of the nodes of a mask that is reached, ascending."""
        return sorted(self.table[mask])

    def order_to(self, mask):
        """Some (start, order) that leads to a mask that is reached."""
        order = ()
        states = self.ends(mask)[0]
        while mask != 0:
            index, states = self.table[mask][states]
            order = (self.rows.numbers[index],) + order
            mask = mask & ~(1 << index)
        return (states, order)

    def listed(self, allowed):
        """The ascending tuple of the nodes (members, states) whose members are in a mask."""
        found = []
        for mask, goals in self.table.items():
            if mask & allowed == mask:
                found.extend([(self.rows.members(mask), states) for states in goals])
        return tuple(sorted(found))


class OrderWeb:
    """Steps between order nodes (mask, states)."""

    def __init__(self, rows):
        self.rows = rows

    def firsts(self, starts):
        """The nodes without members."""
        return [(0, start) for start in starts]

    def steps(self, node):
        """The (index, node) to which one more entry leads."""
        mask, states = node
        goals = [(index, self.rows.moved(index, states)) for index in self.rows.free(mask)]
        return [(index, (mask | 1 << index, goal)) for index, goal in goals if goal is not None]
