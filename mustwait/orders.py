"""Orders, outcomes, fine logs and sound histories."""

from mustwait.logs import committed_of, first_log, opened_of, with_thing
from mustwait.rows import Rows
from mustwait.searches import Memory, found_order, found_orders
from mustwait.subsets import subsets


def orders(system, log, members):
    """Yields (start, order) for all orders of the members that fit, ascending."""
    rows = _rows_of(system, log, members)
    starts = log[0]
    whole = rows.whole
    yield from found_orders(rows, starts, whole)


def fitting(system, log, members):
    """Any (start, order) of the members that fits, or None."""
    rows = _rows_of(system, log, members)
    return found_order(rows, log[0], rows.whole)


def _rows_of(system, log, members):
    return Rows(system, [entry for entry in log[1] if entry[0] in members])


def outcomes(log):
    """Yields all outcomes of a log, ascending."""
    numbers = opened_of(log)
    yield from subsets(numbers)


def is_fine(system, log):
    """Whether each outcome of a log has an order that fits."""
    rows = Rows(system, log[1])
    memory = Memory()
    for outcome in outcomes(log):
        # The outcome without its last one came before it.
        last = outcome[-1] if outcome else None
        if not memory.finds(rows, log[0], _members(log, outcome), last):
            return False
    return True


def is_sound(system, history):
    """Whether the log of each prefix of a history is fine."""
    return unsound_at(system, history) is None


def unsound_at(system, history):
    """The index of the first thing behind which the log is not fine, and the first outcome without order; or None."""
    log = first_log(system)
    memory = Memory()
    begun = 0
    for index, thing in enumerate(history):
        log = with_thing(log, thing, begun)
        if thing[0] == "begin":
            begun += 1
        if thing[0] == "did":
            outcome = first_unfit(system, log, thing[1], memory)
            if outcome is not None:
                return (index, outcome)
    return None


def first_unfit(system, log, number, memory):
    """The first outcome without an order that fits, behind an answer to a transaction."""
    rows = Rows(system, log[1])
    for outcome in outcomes(log):
        # All others have the orders that they had ahead of the answer.
        if number in outcome and not memory.finds(rows, log[0], _members(log, outcome), number):
            return outcome
    return None


def _members(log, outcome):
    return tuple(sorted(committed_of(log) + outcome))
