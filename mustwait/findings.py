"""Findings: what may be said of kinds, logs, runs and controls, and whether it is so."""

from mustwait.certificates import decision_holds, lot_holds
from mustwait.checks import is_states_of
from mustwait.controls import CONTROLS, held_back
from mustwait.errors import TooMany
from mustwait.histories import is_history, is_log
from mustwait.joint import joint_holds
from mustwait.kinds import Kind, is_number, is_states
from mustwait.logs import opened_of
from mustwait.orders import is_fine
from mustwait.runs import is_run, run_order

MOST_OBJECTS = 4

# Far beyond the limits of what is promised, looking through all outcomes would take for ever.
MOST_TRANSACTIONS = 16


def finding_holds(thing):
    """Whether any value is a finding that holds."""
    if not isinstance(thing, tuple) or thing == ():
        return False
    word = thing[0]
    if word == "same" and len(thing) == 3:
        return _same_holds(thing[1], thing[2])
    if word == "decision" and len(thing) == 5:
        return _decision_finding_holds(thing[1], thing[2], thing[3], thing[4])
    if word == "lot" and len(thing) == 4:
        return _lot_finding_holds(thing[1], thing[2], thing[3])
    if (word == "joint" or word == "split") and len(thing) == 4:
        return _joint_finding_holds(word, thing[1], thing[2], thing[3])
    if word == "fails" and len(thing) == 3:
        return _fails_holds(thing[1], thing[2])
    return word == "held" and len(thing) == 4 and _held_holds(thing[1], thing[2], thing[3])


def _is_system(thing):
    """Whether any value is a tuple of one to four tuples of the states of kinds."""
    if not isinstance(thing, tuple) or not 1 <= len(thing) <= MOST_OBJECTS:
        return False
    return all([is_states(states) for states in thing])


def _system(thing):
    return tuple([Kind.of(states) for states in thing])


def _same_holds(one, other):
    if not is_states(one) or not is_states(other):
        return False
    return Kind.of(one).difference(Kind.of(other)) is None


def _decision_finding_holds(told, log, wish, decision):
    if not _is_system(told):
        return False
    system = _system(told)
    return _is_fine_log(system, log) and _is_wish(system, log, wish) and decision_holds(system, log, wish, decision)


def _is_fine_log(system, thing):
    """Whether any value is a log that is fine."""
    return is_log(system, thing) and len(thing[1]) <= MOST_TRANSACTIONS and is_fine(system, thing)


def _is_wish(system, log, thing):
    """Whether any value is a wish of a log."""
    if not isinstance(thing, tuple) or len(thing) != 3:
        return False
    number, place, operation = thing
    if not is_number(number) or number not in opened_of(log):
        return False
    return is_number(place) and place < len(system) and operation in system[place].operations


def _lot_finding_holds(told, log, certificate):
    if not _is_system(told):
        return False
    system = _system(told)
    return _is_fine_log(system, log) and lot_holds(system, log, certificate)


def _joint_finding_holds(word, states, chosen, certificate):
    if not is_states(states):
        return False
    kind = Kind.of(states)
    if not is_states_of(kind, chosen) or not joint_holds(kind, chosen, certificate):
        return False
    return certificate[0] == word


def _fails_holds(told, run):
    if not _is_system(told):
        return False
    system = _system(told)
    if not is_run(system, run) or len({part[1] for part in run}) > MOST_TRANSACTIONS:
        return False
    return run_order(system, run) is None


def _held_holds(control, told, history):
    if control not in CONTROLS or not _is_system(told):
        return False
    system = _system(told)
    if not is_history(system, history) or history == () or history[-1][0] != "did":
        return False
    return _few_at_once(history) and _held_at(control, system, history) == len(history) - 1


def _few_at_once(history):
    """Whether no prefix of a history has too many transactions that have not aborted."""
    many = 0
    most = 0
    for thing in history:
        many += 1 if thing[0] == "begin" else 0
        many -= 1 if thing[0] == "abort" else 0
        most = max(most, many)
    return most <= MOST_TRANSACTIONS


def _held_at(control, system, history):
    """The index of the first answer that a control holds back, or None, also if there are too many nodes."""
    try:
        return held_back(control, system, history)
    except TooMany:
        return None
