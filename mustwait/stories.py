"""Stories, the settled entries of a log, and the folded log."""

from mustwait.checks import events_of, is_row, is_start
from mustwait.kinds import MOST, is_number
from mustwait.logs import committed_of, without_lot
from mustwait.machines import classes, led_by
from mustwait.nodes import OrderNodes
from mustwait.rows import Rows
from mustwait.webs import StoryWeb, all_nodes
from mustwait.wishes import trials


def story(system, log, wish, *, most=MOST):
    """Any story for a wish, or None."""
    # All are made ahead of the choice, for each one may raise TooMany.
    tales = [one.tales(most) for one in trials(system, log, wish)]
    for one in tales:
        if one.end() is not None:
            return one.story()
    return None


def story_holds(system, log, wish, thing):
    """Whether any value is a story for a wish."""
    if not isinstance(thing, tuple) or len(thing) != 2:
        return False
    start, steps = thing
    if not is_start(system, start) or start not in log[0]:
        return False
    if not _is_steps(system, steps) or not _is_complete(log, wish, steps):
        return False
    entries = {entry[0]: entry for entry in log[1]}
    if not all([_is_own_row(entries, wish, number, row) for number, row in steps]):
        return False
    return _stands_behind(log, entries, steps) and _is_legal(system, start, steps)


def _is_steps(system, thing):
    """Whether any value is a tuple of (number or None, row)."""
    events = events_of(system)
    return isinstance(thing, tuple) and all([_is_step(events, step) for step in thing])


def _is_step(events, thing):
    if not isinstance(thing, tuple) or len(thing) != 2:
        return False
    return (thing[0] is None or is_number(thing[0])) and is_row(events, thing[1])


def _is_complete(log, wish, steps):
    """Whether only entries have steps, each one at most, and all that need one have it."""
    told = [number for number, _ in steps if number is not None]
    numbers = [entry[0] for entry in log[1]]
    if len(set(told)) < len(told) or not all([number in numbers for number in told]):
        return False
    return all([number in told for number in committed_of(log) + (wish[0],)])


def _is_own_row(entries, wish, number, row):
    """Whether a row is one that the entry with a number, or a transaction to come, may have."""
    if number is None:
        return row != ()
    _, committed, _, own = entries[number]
    if committed:
        return row == own
    if number == wish[0]:
        return len(row) == len(own) + 1 and row[:-1] == own and row[-1][:2] == wish[1:]
    return row[:len(own)] == own


def _stands_behind(log, entries, steps):
    """Whether each step stands behind those that have to be before it."""
    committed = committed_of(log)
    done = {}
    for number, _ in steps:
        needed = committed if number is None else entries[number][2]
        if not all([other in done for other in needed]):
            return False
        done[number] = True
    return True


def _is_legal(system, start, steps):
    """Whether the events of all steps are legal from a start, object by object."""
    for place, kind in enumerate(system):
        events = [part[1:] for _, row in steps for part in row if part[0] == place]
        if led_by(kind.moves, start[place], events) is None:
            return False
    return True


def settled(system, log, *, most=MOST):
    """The greatest lot of a log."""
    rows = Rows(system, log[1])
    web = StoryWeb(rows, rows.committed)
    nodes = all_nodes(web, log[0], most)
    masks = _useful_masks(web, nodes)
    return rows.members(_greatest_lot(rows, masks))


def _useful_masks(web, nodes):
    """The masks of those nodes that stories come through."""
    useful = {}
    masks = {}
    # Breadth-first, so what a step leads to stands behind, as long as not all committed entries are in.
    for node in reversed(list(nodes)):
        whole = node[0] & web.rows.committed == web.rows.committed
        if whole or any([goal in useful for _, goal in web.steps(node)]):
            useful[node] = True
            masks[node[0]] = True
    return masks


def _greatest_lot(rows, masks):
    """The greatest lot as a mask."""
    # A lot is what all stories have come to at some size: so it is the only useful mask of its size.
    sizes = {}
    for mask in masks:
        sizes.setdefault(len(rows.members(mask)), []).append(mask)
    lots = [same[0] for same in sizes.values() if len(same) == 1 and same[0] & rows.committed == same[0]]
    # Each lot contains all lesser ones.
    return max(lots, default=0)


def folded(system, log, *, most=MOST):
    """The log without its settled entries."""
    lot = settled(system, log, most=most)
    rows = Rows(system, [entry for entry in log[1] if entry[0] in lot])
    # Order nodes of the lot are story nodes, too: so neither they nor the starts are more than most.
    ends = OrderNodes(rows, log[0], most).ends(rows.whole)
    firsts = [firsts_alike(kind) for kind in system]
    starts = sorted({tuple([first[state] for first, state in zip(firsts, states)]) for states in ends})
    return (tuple(starts), without_lot(log, lot))


def firsts_alike(kind):
    """For each state of a kind the first state that is alike."""
    marks = classes(kind.states)
    firsts = {}
    for state, mark in enumerate(marks):
        firsts.setdefault(mark, state)
    return [firsts[mark] for mark in marks]
