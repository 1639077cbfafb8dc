"""Decisions for wishes, and certificates of lots: made, and held against the log."""

from mustwait.checks import exactly, is_numbers, is_start
from mustwait.closures import is_closed_lots, is_closed_orders, is_closed_stories
from mustwait.errors import TooMany
from mustwait.kinds import MOST, is_number
from mustwait.logs import committed_of
from mustwait.nodes import OrderNodes
from mustwait.rows import Rows
from mustwait.searches import found_order
from mustwait.stories import settled, story_holds
from mustwait.subsets import subsets
from mustwait.webs import LotWeb, StoryWeb, all_nodes, sets_of
from mustwait.wishes import freed_by, releases_of, trials, tries

# So many order nodes are kept at once; where there are more, orders are searched for instead.
MANY = 50000


def decide(system, log, wish, *, most=MOST):
    """Any decision for a wish."""
    tried = tries(system, log, wish, most)
    for one in tried:
        if one.can_be_given():
            return ("given", one.answer, _orders_with(one))
    if any([one.many_good > 0 for one in tried]):
        return ("waits", tuple([_block(one) for one in tried]), releases_of(tried))
    tales = [one.tales(most) for one in tried]
    for one in tales:
        if one.end() is not None:
            blocks = tuple([(each.answer, each.nodes.listed(each.rows.whole)) for each in tried])
            return ("later", blocks, one.story())
    return ("never", tuple([(one.answer, tale.listed()) for one, tale in zip(tried, tales)]))


def _orders_with(tried):
    """For each set of other open entries an order, with an answer that can be given."""
    others = tried.others
    return tuple([(chosen,) + tried.nodes.order_to(tried.mask_of(chosen)) for chosen in subsets(others)])


def _block(tried):
    """The block of an answer that cannot be given, for the first set that is not good."""
    others = tried.others
    for chosen in subsets(others):
        mask = tried.mask_of(chosen)
        if not tried.nodes.reaches(mask):
            return (tried.answer, chosen, tried.nodes.listed(mask))
    return None


def decision_holds(system, log, wish, thing):
    """Whether any value is a decision for a wish."""
    if not isinstance(thing, tuple) or not 2 <= len(thing) <= 3:
        return False
    if len(thing) == 2:
        return thing[0] == "never" and _never_holds(system, log, wish, thing[1])
    if thing[0] == "given":
        return _given_holds(system, log, wish, thing[1], thing[2])
    if thing[0] == "waits":
        return _waits_holds(system, log, wish, thing[1], thing[2])
    return thing[0] == "later" and _later_holds(system, log, wish, thing[1], thing[2])


def _given_holds(system, log, wish, answer, found):
    tried = [one for one in trials(system, log, wish) if one.answer == answer]
    if not tried or not isinstance(found, tuple):
        return False
    others = tried[0].others
    wanted = list(subsets(others))
    if len(found) != len(wanted):
        return False
    return all([_is_order_with(system, tried[0], chosen, part) for chosen, part in zip(wanted, found)])


def _is_order_with(system, trial, chosen, thing):
    """Whether any value is (outcome, start, order) for a set of other open entries, with the answer of a trial."""
    if not isinstance(thing, tuple) or len(thing) != 3 or not exactly(thing[0], chosen):
        return False
    start, order = thing[1:]
    if not is_start(system, start) or start not in trial.starts:
        return False
    if not isinstance(order, tuple) or not all([is_number(number) for number in order]):
        return False
    members = trial.rows.members(trial.mask_of(chosen))
    return tuple(sorted(order)) == members and trial.rows.is_order(start, order)


def _waits_holds(system, log, wish, blocks, found):
    tried = trials(system, log, wish)
    if not _are_parts(tried, 3, blocks) or not isinstance(found, tuple) or found == ():
        return False
    if not all([_is_block(system, one, block[1], block[2]) for one, block in zip(tried, blocks)]):
        return False
    # The blocks show that no answer can be given, so these are the releases.
    return exactly(found, tuple(sorted([release for one in tried for release in _releases_for(one)])))


def _is_block(system, trial, outcome, nodes):
    """Whether any two values are a set of other open entries, and order nodes that show that it is not good."""
    if not is_numbers(outcome) or not all([number in trial.others for number in outcome]):
        return False
    members = trial.rows.members(trial.mask_of(outcome))
    rows = Rows(system, [entry for entry in trial.entries if entry[0] in members])
    return is_closed_orders(system, rows, trial.starts, rows.whole, nodes)


def _releases_for(trial):
    """The releases for an answer that cannot be given, however many order nodes it has."""
    others = trial.others
    try:
        nodes = OrderNodes(trial.rows, trial.starts, MANY)
    except TooMany:
        good = [chosen for chosen in subsets(others) if _is_good(trial, chosen)]
    else:
        good = [chosen for chosen in subsets(others) if nodes.reaches(trial.mask_of(chosen))]
    return freed_by(trial.answer, others, good)


def _is_good(trial, chosen):
    return found_order(trial.rows, trial.starts, trial.mask_of(chosen)) is not None


def _later_holds(system, log, wish, blocks, story):
    tried = trials(system, log, wish)
    if not _are_parts(tried, 2, blocks) or not story_holds(system, log, wish, story):
        return False
    return all([_is_bar(system, one, block[1]) for one, block in zip(tried, blocks)])


def _is_bar(system, trial, nodes):
    return is_closed_orders(system, trial.rows, trial.starts, trial.goal, nodes)


def _never_holds(system, log, wish, refusals):
    tried = trials(system, log, wish)
    if not _are_parts(tried, 2, refusals):
        return False
    return all([_is_refusal(system, one, part[1]) for one, part in zip(tried, refusals)])


def _is_refusal(system, trial, nodes):
    web = trial.story_web(())
    return is_closed_stories(system, web, trial.starts, trial.goal, nodes)


def _are_parts(tried, many, thing):
    """Whether any value is a tuple of tuples of so many parts, one for each answer, which comes first."""
    if not isinstance(thing, tuple) or len(thing) != len(tried):
        return False
    return all([_is_part(one.answer, many, part) for one, part in zip(tried, thing)])


def _is_part(answer, many, thing):
    return isinstance(thing, tuple) and len(thing) == many and thing[0] == answer


def lot_certificate(system, log, *, most=MOST):
    """Any certificate of the greatest lot."""
    lot = settled(system, log, most=most)
    web = _lot_web(system, log, lot)
    # As settled says, there are not too many story nodes; each comes here strayed, not strayed, or both.
    nodes = all_nodes(web, log[0], None)
    return (lot, tuple(sorted([(web.rows.members(mask), sets_of(sets), strayed) for mask, sets, strayed in nodes])))


def lot_holds(system, log, thing):
    """Whether any value is a certificate of a lot."""
    if not isinstance(thing, tuple) or len(thing) != 2:
        return False
    lot, nodes = thing
    committed = committed_of(log)
    if not is_numbers(lot) or not all([number in committed for number in lot]):
        return False
    web = _lot_web(system, log, lot)
    return is_closed_lots(system, web, log[0], web.rows.committed, nodes)


def _lot_web(system, log, lot):
    rows = Rows(system, log[1])
    return LotWeb(StoryWeb(rows, rows.committed), rows.mask(lot))
