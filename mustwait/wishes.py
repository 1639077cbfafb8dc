"""Wishes: which answers can be given, and what a wish waits for."""

from mustwait.kinds import MOST
from mustwait.logs import others_of, with_event
from mustwait.nodes import OrderNodes
from mustwait.rows import Rows
from mustwait.subsets import least_pairs, subsets
from mustwait.tales import Tales
from mustwait.webs import StoryWeb, leads_to


class Trial:
    """The log of a wish with a possible answer added."""

    def __init__(self, system, log, wish, answer):
        number, place, operation = wish
        self.answer = answer
        self.starts, self.entries = with_event(log, number, (place, operation, answer))
        self.others = others_of(log, number)
        self.rows = Rows(system, self.entries)
        self.goal = self.rows.committed | self.rows.mask((number,))

    def mask_of(self, chosen):
        """The mask of all committed entries, the wishing one and some others."""
        return self.goal | self.rows.mask(chosen)

    def tales(self, most):
        """All story nodes with this answer."""
        return Tales(self.story_web(()), self.starts, self.goal, most)

    def story_web(self, held):
        """The steps between story nodes with this answer, where other entries that are held get no further events."""
        return StoryWeb(self.rows, self.mask_of(held))

    def has_story(self, held):
        """Whether there is a story with this answer in which those that are held get no further events."""
        return leads_to(self.story_web(held), self.starts, self.goal)


class Tried(Trial):
    """A trial with its order nodes; raises TooMany if these are more than most."""

    def __init__(self, system, log, wish, answer, most):
        Trial.__init__(self, system, log, wish, answer)
        self.nodes = OrderNodes(self.rows, self.starts, most)
        self.many_good = len(self.nodes.reached(self.goal))

    def can_be_given(self):
        """Whether all sets of other open entries are good."""
        return self.many_good == 1 << len(self.others)

    def good(self):
        """The ascending tuple of all good sets."""
        others = self.others
        return tuple([chosen for chosen in subsets(others) if self.nodes.reaches(self.mask_of(chosen))])


def possible_answers(system, wish):
    """The ascending tuple of all answers that the operation of a wish has somewhere."""
    return tuple([answer for operation, answer in system[wish[1]].events if operation == wish[2]])


def trials(system, log, wish):
    """The trials of all possible answers, ascending."""
    return [Trial(system, log, wish, answer) for answer in possible_answers(system, wish)]


def tries(system, log, wish, most):
    """The trials of all possible answers, ascending, with their order nodes."""
    return [Tried(system, log, wish, answer, most) for answer in possible_answers(system, wish)]


def can_give(system, log, wish, answer, *, most=MOST):
    """Whether a possible answer can be given."""
    return Tried(system, log, wish, answer, most).can_be_given()


def good_sets(system, log, wish, answer, *, most=MOST):
    """The ascending tuple of all good sets of a wish and a possible answer."""
    return Tried(system, log, wish, answer, most).good()


def releases(system, log, wish, *, most=MOST):
    """The releases of a wish, empty if it does not wait for transactions."""
    return releases_of(tries(system, log, wish, most))


def releases_of(tried):
    """The releases of a wish, from its tries."""
    if any([one.can_be_given() for one in tried]):
        return ()
    return tuple(sorted([release for one in tried for release in freed_by(one.answer, one.others, one.good())]))


def freed_by(answer, others, good):
    """The releases for an answer that has these good sets of these other open entries."""
    return [(answer, commits, aborts) for commits, aborts in least_pairs(others, good)]


def status(system, log, wish, *, most=MOST):
    """What becomes of a wish: "given", "waits" (for transactions), "later" (for operations) or "never"."""
    tried = tries(system, log, wish, most)
    return status_of(tried, most)


def status_of(tried, most):
    """The status of a wish, from its tries."""
    if first_given(tried) is not None:
        return "given"
    if any([one.many_good > 0 for one in tried]):
        return "waits"
    # All are made ahead of the choice, for each one may raise TooMany.
    tales = [one.tales(most) for one in tried]
    return "later" if any([one.end() is not None for one in tales]) else "never"


def first_given(tried):
    """The first answer that can be given, or None."""
    for one in tried:
        if one.can_be_given():
            return one.answer
    return None
