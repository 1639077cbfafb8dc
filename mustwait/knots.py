"""Knots: transactions whose wishes wait for one another, and which of them may abort to end it."""

from mustwait.turns import turn_of_abort
from mustwait.wishes import trials


class Grip:
    """What a wish waits for; raises TooMany if it has too many nodes."""

    def __init__(self, view, wish):
        self.looks = view.looks_at(wish)
        self.status, _ = view.verdict(wish)
        self.trials = trials(view.system, view.logged, wish) if self.status == "later" else []

    def holds(self, numbers):
        """Whether the wish goes on waiting as long as these transactions do nothing, whatever others do."""
        if self.status == "waits":
            return not any([look.frees(numbers) for look in self.looks])
        return self.status == "later" and not any([one.has_story(numbers) for one in self.trials])


def greatest_knot(view, wishes):
    """The greatest knot, ascending."""
    grips = {wish[0]: Grip(view, wish) for wish in wishes}
    knot = sorted(grips)
    # A wish that a set does not hold is held by no smaller one: so what is left out is in no knot.
    while True:
        held = _held(grips, knot)
        if held == knot:
            return tuple(knot)
        knot = held


def _held(grips, numbers):
    """Those of some transactions whose wishes all of them hold."""
    return [number for number in numbers if grips[number].holds(numbers)]


def remedies_of(view, wishes):
    """The ascending tuple of all remedies of the greatest knot."""
    knot = greatest_knot(view, wishes)
    found = []
    level = [((), view, wishes)] if knot else []
    # By their sizes: so all lesser remedies are known when a set is looked at.
    while level:
        tried = _with_one_more(knot, found, level)
        level = []
        for chosen, view_then, wishes_then in tried:
            left = greatest_knot(view_then, wishes_then)
            if any([number in left for number in knot]):
                level.append((chosen, view_then, wishes_then))
            else:
                found.append(chosen)
    return tuple(sorted(found))


def _with_one_more(knot, found, level):
    """The (chosen, view, wishes) in which one more of a knot has aborted, behind those of a level."""
    tried = []
    for chosen, view, wishes in level:
        for number in knot:
            more = chosen + (number,)
            if number > max(chosen, default=-1) and not any([_contains(more, one) for one in found]):
                view_then, wishes_then, _ = turn_of_abort(view, wishes, number)
                tried.append((more, view_then, wishes_then))
    return tried


def _contains(chosen, one):
    return all([number in chosen for number in one])
