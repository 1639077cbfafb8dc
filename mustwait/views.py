"""Views: logs taken apart, so that wishes are looked at quickly.

The parts of a log share no object, and nothing of one part is before anything
of another one; the starts combine those of the parts freely. So the order nodes
of the log are the combinations of those of its parts, and as the log is fine,
an answer depends on the part alone to which the wish belongs.
"""

from mustwait.errors import TooMany
from mustwait.nodes import OrderNodes
from mustwait.rows import Rows
from mustwait.stories import firsts_alike
from mustwait.wishes import Tried, possible_answers, trials

# So many looks are remembered at most: then all are forgotten, lest a long day fills the memory.
MOST_KNOWN = 2000


class Known:
    """What has been found out about parts of logs of a system."""

    def __init__(self, system):
        self.first_alike = [firsts_alike(kind) for kind in system]
        self.looks = {}
        self.counts = {}

    def forget_many(self):
        """Forgets all, if it is much."""
        if len(self.looks) + len(self.counts) > MOST_KNOWN:
            self.looks.clear()
            self.counts.clear()


class Look:
    """What is to be kept of the trial of a possible answer: the masks of its good sets."""

    def __init__(self, tried):
        self.answer = tried.answer
        self.bits = [(number, tried.rows.mask((number,))) for number in tried.others]
        self.goods = tried.nodes.reached(tried.goal)
        self.many = tried.nodes.many

    def can_be_given(self):
        """Whether all sets of other open entries are good."""
        return len(self.goods) == 1 << len(self.bits)

    def frees(self, numbers):
        """Whether some release for this answer has none of these transactions."""
        inside = [bit for number, bit in self.bits if number in numbers]
        loose = sum(inside)
        counts = {}
        for mask in self.goods:
            counts[mask & ~loose] = counts.get(mask & ~loose, 0) + 1
        # What others do frees the wish if then all sets are good, whichever of these transactions are in them.
        return any([many == 1 << len(inside) for many in counts.values()])


class View:
    """A fine log, made ready for wishes to be looked at."""

    def __init__(self, system, log, most, known):
        self.system = system
        self.logged = log
        self.most = most
        self.known = known
        self.parts = None
        self.verdicts = {}

    def after(self, log):
        """A view of a later log of the same store."""
        self.known.forget_many()
        return View(self.system, log, self.most, self.known)

    def is_folded(self):
        """Whether folding would leave the log as it is, as can be seen at once."""
        if any([entry[1] for entry in self.logged[1]]):
            return False
        firsts = self.known.first_alike
        return all([first[state] == state for start in self.logged[0] for first, state in zip(firsts, start)])

    def verdict(self, wish):
        """The status of a wish, and the first answer that can be given, or None."""
        if wish not in self.verdicts:
            self.verdicts[wish] = self._found_verdict(wish)
        return self.verdicts[wish]

    def _found_verdict(self, wish):
        looks = self.looks_at(wish)
        for look in looks:
            if look.can_be_given():
                return ("given", look.answer)
        if any([look.goods for look in looks]):
            return ("waits", None)
        # All are made ahead of the choice, for each one may raise TooMany.
        tales = [one.tales(self.most) for one in trials(self.system, self.logged, wish)]
        return ("later" if any([one.end() is not None for one in tales]) else "never", None)

    def looks_at(self, wish):
        """The looks at all possible answers of a wish, ascending; raises TooMany if one has too many order nodes."""
        part, others = self._part_of(wish)
        factor = 1
        for other in others:
            factor = factor * self._count(other)
        looks = self._looks_in(part, wish)
        if any([look.many * factor > self.most for look in looks]):
            raise TooMany(self.most)
        return looks

    def _part_of(self, wish):
        """The part of a wish, as a log, and the other ones."""
        if self.parts is None:
            self.parts = _parts_of(self.system, self.logged)
        number, place, _ = wish
        mine = [part for part in self.parts if place in part[0] or number in part[1]]
        others = [part[2] for part in self.parts if part not in mine]
        if len(mine) == 1:
            return (mine[0][2], others)
        places = [one for part in mine for one in part[0]]
        numbers = [one for part in mine for one in part[1]]
        return (_part_log(self.logged, places, numbers), others)

    def _count(self, part):
        """The number of the order nodes of a part without the wish."""
        counts = self.known.counts
        if part not in counts:
            counts[part] = OrderNodes(Rows(self.system, part[1]), part[0], self.most).many
        return counts[part]

    def _looks_in(self, part, wish):
        looks = self.known.looks
        key = (part, wish)
        if key not in looks:
            answers = possible_answers(self.system, wish)
            looks[key] = [Look(Tried(self.system, part, wish, answer, self.most)) for answer in answers]
        return looks[key]


def _parts_of(system, log):
    """The (places, numbers, log) of all parts."""
    parts = [([place], []) for place in range(len(system))]
    for number, _, earlier, row in log[1]:
        parts = _with_entry(parts, number, [event[0] for event in row], earlier)
    many = 1
    for places, _ in parts:
        many = many * len(_starts_at(log, places))
    # Starts that do not combine those of the parts freely tie all parts together.
    if many != len(log[0]):
        parts = [(list(range(len(system))), [entry[0] for entry in log[1]])]
    return [(places, numbers, _part_log(log, places, numbers)) for places, numbers in parts]


def _with_entry(parts, number, places, earlier):
    """The parts (places, numbers) with one more entry, which ties together those that it touches."""
    found = []
    mine = ([], [number])
    for part in parts:
        if any([place in part[0] for place in places]) or any([other in part[1] for other in earlier]):
            mine = (mine[0] + part[0], mine[1] + part[1])
        else:
            found.append(part)
    return found + [mine]


def _part_log(log, places, numbers):
    """A part of a log as a log of its own: at other objects all starts are 0."""
    return (_starts_at(log, places), tuple([entry for entry in log[1] if entry[0] in numbers]))


def _starts_at(log, places):
    """The starts as they differ at some objects."""
    if len(log[0]) == 1:
        return log[0]
    distinct = {tuple([state if place in places else 0 for place, state in enumerate(start)]) for start in log[0]}
    return tuple(sorted(distinct))
