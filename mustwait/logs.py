"""Logs: what becomes of them when transactions begin, get answers, commit and abort.

A log is (starts, entries); an entry is (number, committed, earlier, row).
"""


def first_log(system):
    """The log of the empty history."""
    return ((tuple([0 for _ in system]),), ())


def committed_of(log):
    """The numbers of the committed entries, ascending."""
    return tuple([entry[0] for entry in log[1] if entry[1]])


def opened_of(log):
    """The numbers of the open entries, ascending."""
    return tuple([entry[0] for entry in log[1] if not entry[1]])


def others_of(log, number):
    """The numbers of the open entries but one, ascending."""
    return tuple([other for other in opened_of(log) if other != number])


def row_of(log, number):
    """The row of an entry."""
    for entry in log[1]:
        if entry[0] == number:
            return entry[3]
    return ()


def with_begin(log, number):
    """The log once a transaction with a greater number than all others has begun."""
    return (log[0], log[1] + ((number, False, committed_of(log), ()),))


def with_event(log, number, event):
    """The log once a transaction has got an event (object, operation, answer)."""
    return (log[0], tuple([_longer(entry, event) if entry[0] == number else entry for entry in log[1]]))


def _longer(entry, event):
    number, committed, earlier, row = entry
    return (number, committed, earlier, row + (event,))


def with_commit(log, number):
    """The log once a transaction has committed."""
    return (log[0], tuple([_committed(entry) if entry[0] == number else entry for entry in log[1]]))


def _committed(entry):
    return (entry[0], True, entry[2], entry[3])


def with_abort(log, number):
    """The log once an open transaction has aborted."""
    # An open entry is before no other one, so nothing else names it.
    return (log[0], tuple([entry for entry in log[1] if entry[0] != number]))


def with_thing(log, thing, begun):
    """The log behind a thing of a history in which so many transactions have begun so far."""
    if thing[0] == "begin":
        return with_begin(log, begun)
    if thing[0] == "did":
        return with_event(log, thing[1], thing[2:])
    if thing[0] == "commit":
        return with_commit(log, thing[1])
    return with_abort(log, thing[1])


def without_lot(log, lot):
    """The entries of a log but for those of a lot, which are not told as earlier ones either."""
    return tuple([_later(entry, lot) for entry in log[1] if entry[0] not in lot])


def _later(entry, lot):
    number, committed, earlier, row = entry
    return (number, committed, tuple([other for other in earlier if other not in lot]), row)
