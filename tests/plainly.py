"""Stories, decisions and certificates once more: what the document says of any value, word by word."""

import plain


def same(one, other):
    """Whether two values are the same, where True is not 1 and a list is no tuple."""
    return repr(one) == repr(other)


def is_int(thing):
    return type(thing) is int


def is_tuple(thing, many=None):
    return type(thing) is tuple and (many is None or len(thing) == many)


def ascending(parts):
    return all(parts[at] < parts[at + 1] for at in range(len(parts) - 1))


def is_numbers(thing, numbers):
    return is_tuple(thing) and all(is_int(one) and one in numbers for one in thing) and ascending(thing)


def is_start(system, thing):
    return is_tuple(thing, len(system)) and all(
        is_int(state) and 0 <= state < len(kind.states) for kind, state in zip(system, thing)
    )


def is_sets(system, thing):
    return is_tuple(thing, len(system)) and all(
        part != () and is_numbers(part, range(len(kind.states))) for kind, part in zip(system, thing)
    )


def is_event(system, thing):
    if not is_tuple(thing, 3) or not is_int(thing[0]) or thing[0] not in range(len(system)):
        return False
    return any(same(thing[1:], step[:2]) for state in system[thing[0]].states for step in state)


def story_holds(system, log, wish, thing):
    if not is_tuple(thing, 2) or not is_start(system, thing[0]) or thing[0] not in log[0] or not is_tuple(thing[1]):
        return False
    entries = plain.entries_of(log)
    told = []
    events = []
    for step in thing[1]:
        if not is_tuple(step, 2) or not is_tuple(step[1]) or not all(is_event(system, part) for part in step[1]):
            return False
        number, row = step
        if number is None:
            if row == () or not set(plain.committed(log)) <= set(told):
                return False
        elif not is_int(number) or number not in entries or number in told:
            return False
        else:
            _, over, earlier, own = entries[number]
            if over:
                right = same(row, own)
            elif number == wish[0]:
                right = len(row) == len(own) + 1 and same(row[:-1], own) and same(row[-1][:2], wish[1:])
            else:
                right = same(row[:len(own)], own)
            if not right or not set(earlier) <= set(told):
                return False
            told.append(number)
        events += row
    if not set(plain.committed(log)) | {wish[0]} <= set(told):
        return False
    return plain.led_all(system, thing[0], events) is not None


def closed_orders(system, log, thing, barred):
    """Whether a value is a closed tuple of order nodes of a log, none of them with all the barred ones."""
    numbers = [entry[0] for entry in log[1]]
    if not is_tuple(thing) or not all(is_tuple(node, 2) for node in thing):
        return False
    if not all(is_numbers(node[0], numbers) and is_start(system, node[1]) for node in thing):
        return False
    if not ascending(thing) or any(set(barred) <= set(node[0]) for node in thing):
        return False
    known = set(thing)
    return all(((), start) in known for start in log[0]) and all(
        goal in known for node in thing for goal in plain.order_steps(system, log, node)
    )


def closed_stories(system, log, number, thing, barred):
    numbers = [entry[0] for entry in log[1]]
    if not is_tuple(thing) or not all(is_tuple(node, 2) for node in thing):
        return False
    if not all(is_numbers(node[0], numbers) and is_sets(system, node[1]) for node in thing):
        return False
    if not ascending(thing) or any(set(barred) <= set(node[0]) for node in thing):
        return False
    known = set(thing)
    return all(first in known for first in plain.first_sets(log)) and all(
        goal in known for node in thing for goal in plain.story_steps(system, log, number, node)
    )


def decision_holds(system, log, wish, thing):
    if not is_tuple(thing) or thing == ():
        return False
    if same(thing[0], "given") and len(thing) == 3:
        return given_holds(system, log, wish, thing[1], thing[2])
    if same(thing[0], "waits") and len(thing) == 3:
        return waits_holds(system, log, wish, thing[1], thing[2])
    if same(thing[0], "later") and len(thing) == 3:
        return later_holds(system, log, wish, thing[1], thing[2])
    return same(thing[0], "never") and len(thing) == 2 and never_holds(system, log, wish, thing[1])


def given_holds(system, log, wish, answer, found):
    if not any(same(answer, one) for one in plain.possible_answers(system, wish)) or not is_tuple(found):
        return False
    longer = plain.with_answer(log, wish, answer)
    wanted = plain.subsets(plain.others(log, wish))
    if len(found) != len(wanted):
        return False
    for chosen, part in zip(wanted, found):
        if not is_tuple(part, 3) or not same(part[0], chosen):
            return False
        if not is_start(system, part[1]) or part[1] not in log[0]:
            return False
        members = sorted(plain.committed(log) + chosen + (wish[0],))
        if not is_tuple(part[2]) or not all(is_int(one) for one in part[2]) or sorted(part[2]) != members:
            return False
        if not plain.stands_behind(longer, part[2]) or plain.ends(system, longer, part[1], part[2]) is None:
            return False
    return True


def is_blocks(system, wish, thing, many):
    answers = plain.possible_answers(system, wish)
    if not is_tuple(thing) or not all(is_tuple(part, many) for part in thing):
        return False
    return same([part[0] for part in thing], answers)


def waits_holds(system, log, wish, blocks, found):
    if not is_blocks(system, wish, blocks, 3):
        return False
    for answer, outcome, nodes in blocks:
        if not is_numbers(outcome, plain.others(log, wish)):
            return False
        members = plain.committed(log) + outcome + (wish[0],)
        longer = plain.with_answer(log, wish, answer)
        some = (log[0], tuple(entry for entry in longer[1] if entry[0] in members))
        if not closed_orders(system, some, nodes, members):
            return False
    return found != () and same(found, plain.releases(system, log, wish))


def later_holds(system, log, wish, blocks, story):
    barred = plain.committed(log) + (wish[0],)
    if not is_blocks(system, wish, blocks, 2) or not story_holds(system, log, wish, story):
        return False
    return all(closed_orders(system, plain.with_answer(log, wish, part[0]), part[1], barred) for part in blocks)


def never_holds(system, log, wish, refusals):
    barred = plain.committed(log) + (wish[0],)
    if not is_blocks(system, wish, refusals, 2):
        return False
    return all(
        closed_stories(system, plain.with_answer(log, wish, part[0]), wish[0], part[1], barred) for part in refusals
    )


def lot_holds(system, log, thing):
    numbers = [entry[0] for entry in log[1]]
    done = set(plain.committed(log))
    if not is_tuple(thing, 2) or not is_numbers(thing[0], done) or not is_tuple(thing[1]):
        return False
    lot = set(thing[0])
    for node in thing[1]:
        if not is_tuple(node, 3) or not is_numbers(node[0], numbers) or not is_sets(system, node[1]):
            return False
        if type(node[2]) is not bool or node[2] and done <= set(node[0]):
            return False
    if not ascending(thing[1]):
        return False
    known = set(thing[1])
    if not all(first + (False,) in known for first in plain.first_sets(log)):
        return False
    for members, sets, strayed in thing[1]:
        for goal in plain.story_steps(system, log, None, (members, sets)):
            apart = not lot <= set(goal[0]) and not set(goal[0]) <= lot
            if goal + (strayed or apart,) not in known:
                return False
    return True
