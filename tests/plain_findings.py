"""Promise [32] once more, word by word."""

import plain
import plain_controls
import plain_tables
import plainly
from mustwait.kinds import Kind
from test_histories import says_history, says_log
from test_joint import is_set, says_certificate
from test_kinds import says_states


def is_system(thing):
    return type(thing) is tuple and 1 <= len(thing) <= 4 and all(says_states(states) for states in thing)


def is_wish(system, log, thing):
    if not plainly.is_tuple(thing, 3) or not plainly.is_int(thing[0]) or thing[0] not in plain.opened(log):
        return False
    if not plainly.is_int(thing[1]) or thing[1] not in range(len(system)):
        return False
    return any(plainly.same(thing[2], operation) for operation, _ in system[thing[1]].events)


def same(one, other):
    """Whether two kinds have the same legal sequences: no sequence leads to states with different events."""
    one, other = Kind.of(one), Kind.of(other)
    pairs = plain.closure([(0, 0)], lambda pair: [
        (goal, plain.moves(other, pair[1])[event]) for event, goal in plain.moves(one, pair[0]).items()
        if event in plain.moves(other, pair[1])
    ])
    return all(set(plain.moves(one, a)) == set(plain.moves(other, b)) for a, b in pairs)


def holds(thing):
    if type(thing) is not tuple or not thing or type(thing[0]) is not str:
        return False
    word, parts = thing[0], thing[1:]
    if word == "same" and len(parts) == 2:
        return all(says_states(part) for part in parts) and same(*parts)
    if word in ("joint", "split") and len(parts) == 3:
        if not says_states(parts[0]) or not is_set(Kind.of(parts[0]), parts[1]):
            return False
        return says_certificate(Kind.of(parts[0]), *parts[1:]) and parts[2][0] == word
    if (word, len(parts)) == ("held", 3):
        return parts[0] in ("in place", "aside", "stamps", "cube", "orders") and held(*parts)
    if (word, len(parts)) not in (("decision", 4), ("lot", 3), ("fails", 2)) or not is_system(parts[0]):
        return False
    system = tuple(Kind.of(states) for states in parts[0])
    if word == "fails":
        return plain_tables.is_run(system, parts[1]) and not plain_tables.run_orders(system, parts[1])
    log = parts[1]
    if not says_log(system, log) or not plain.is_fine(system, log):
        return False
    if word == "lot":
        return plainly.lot_holds(system, log, parts[2])
    return is_wish(system, log, parts[2]) and plainly.decision_holds(system, log, parts[2], parts[3])


def held(control, system, history):
    if not is_system(system):
        return False
    kinds = tuple(Kind.of(states) for states in system)
    if not says_history(kinds, history) or not history or history[-1][0] != "did":
        return False
    return plain_controls.held_back(control, kinds, history) == len(history) - 1
