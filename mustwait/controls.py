"""Controls beside one another: which answers each of them lets, and histories that tell two of them apart."""

from mustwait.hunts import Hunt
from mustwait.judges import judge_of
from mustwait.kinds import MOST

CONTROLS = ("in place", "aside", "stamps", "cube", "orders")

def held_back(control, system, history, *, most=MOST):
    """The index of the first answer in a history that a control holds back, or None."""
    judge = judge_of(control, system, most)
    state = judge.first()
    for index, thing in enumerate(history):
        if thing[0] == "did" and not judge.lets(state, thing):
            return index
        state = judge.after(state, thing)
    return None


def separating(kind, one, other, length):
    """Any shortest history of one object, of so many things at most, that one control lets and another one does not."""
    if one == other:
        return None
    hunt = Hunt(kind, judge_of(one, (kind,), MOST), judge_of(other, (kind,), MOST))
    for left in reversed(range(length)):
        found = hunt.found_next(left == 0)
        if found is not None:
            return found
    return None
