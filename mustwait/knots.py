"""Knots: transactions whose wishes wait for one another, and which of them may abort to end it."""

from mustwait.turns import turn_of_abort
from mustwait.wishes import status_of, tries


class Grip:
    """What a wish waits for; raises TooMany if it has too many nodes."""

    def __init__(self, system, log, wish, most):
        self.tried = tries(system, log, wish, most)
        self.status = status_of(self.tried, most)

    def holds(self, numbers):
        """Whether the wish goes on waiting as long as these transactions do nothing, whatever others do."""
        if self.status == "waits":
            return not any([_frees(one, numbers) for one in self.tried])
        return self.status == "later" and not any([_leads(one, numbers) for one in self.tried])


def _frees(tried, numbers):
    """Whether some release for an answer has none of these transactions."""
    inside = [number for number in tried.others if number in numbers]
    counts = {}
    for chosen in tried.good():
        outside = tuple([number for number in chosen if number not in numbers])
        counts[outside] = counts.get(outside, 0) + 1
    # What others do frees the wish if then all sets are good, whichever of these transactions are in them.
    return any([many == 1 << len(inside) for many in counts.values()])


def _leads(tried, numbers):
    """Whether there is a story for an answer in which these transactions get no further events."""
    return tried.tales(numbers, None).end() is not None


def greatest_knot(system, log, wishes, most):
    """The greatest knot, ascending."""
    grips = {wish[0]: Grip(system, log, wish, most) for wish in wishes}
    knot = sorted(grips)
    # A wish that a set does not hold is held by no smaller one: so what is left out is in no knot.
    while True:
        held = _held(grips, knot)
        if held == knot:
            return tuple(knot)
        knot = held


def _held(grips, numbers):
    """Those of some transactions whose wishes all of them hold."""
    return [number for number in numbers if grips[number].holds(numbers)]


def remedies_of(system, log, wishes, most):
    """The ascending tuple of all remedies of the greatest knot."""
    knot = greatest_knot(system, log, wishes, most)
    found = []
    level = [((), log, wishes)] if knot else []
    # By their sizes: so all lesser remedies are known when a set is looked at.
    while level:
        tried = _with_one_more(system, knot, found, level, most)
        level = []
        for chosen, log_then, wishes_then in tried:
            left = greatest_knot(system, log_then, wishes_then, most)
            if any([number in left for number in knot]):
                level.append((chosen, log_then, wishes_then))
            else:
                found.append(chosen)
    return tuple(sorted(found))


def _with_one_more(system, knot, found, level, most):
    """The (chosen, log, wishes) in which one more of a knot has aborted, behind those of a level."""
    tried = []
    for chosen, log, wishes in level:
        for number in knot:
            more = chosen + (number,)
            if number > max(chosen, default=-1) and not any([_contains(more, one) for one in found]):
                log_then, wishes_then, _ = turn_of_abort(system, log, wishes, number, most)
                tried.append((more, log_then, wishes_then))
    return tried


def _contains(chosen, one):
    return all([number in chosen for number in one])
