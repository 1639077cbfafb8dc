"""Drawn systems, logs and histories."""

import plain
import plain_alone
from mustwait.builders import account, cell, counter, permits, pool, queue, stack, switch, tickets
from mustwait.kinds import Kind
from values import random_states

SMALL_KINDS = (
    account(1, 1), account(2, 1), account(3, 1, 2), cell("a", "b"), counter(2), permits(1), permits(2),
    pool(2, "a", "b"), queue(2, "a", "b"), stack(2, "a", "b"), switch(), tickets(2), tickets(3),
)


def kind(random):
    if random.random() < 0.6:
        return random.choice(SMALL_KINDS)
    words = random.sample("abc", random.randrange(1, 3))
    return Kind.of(random_states(random, random.randrange(1, 5), words, random.choice([0.3, 0.5, 0.7])))


def kind_with_events(random):
    while True:
        found = kind(random)
        if found.events:
            return found


def system(random, most=2):
    return tuple(kind_with_events(random) for _ in range(random.randrange(1, most + 1)))


def event(random, system):
    place = random.randrange(len(system))
    return (place,) + random.choice(system[place].events)


def wish(random, system, log):
    place = random.randrange(len(system))
    return (random.choice(plain.opened(log)), place, random.choice(system[place].operations))


def row(random, system, most):
    return tuple(event(random, system) for _ in range(random.randrange(most + 1)))


def log(random, system, most=4, most_row=2):
    """Any log, perhaps not a fine one, and perhaps one that no history has."""
    starts = {tuple(random.randrange(len(kind)) for kind in system) for _ in range(random.choice([1, 1, 1, 2, 4]))}
    entries = []
    number = 0
    for _ in range(random.randrange(most + 1)):
        number += random.choice([0, 0, 0, 1, 7])
        over = [entry[0] for entry in entries if entry[1]]
        earlier = set(random.sample(over, random.randrange(len(over) + 1)))
        for entry in entries:
            if entry[0] in earlier:
                earlier |= set(entry[2])
        entries.append((number, random.random() < 0.4, tuple(sorted(earlier)), row(random, system, most_row)))
        number += 1
    return (tuple(sorted(starts)), tuple(entries))


def walked(random, system, things, most=4):
    """A log to which drawn things lead, all of them fine."""
    found = (((0,) * len(system),), ())
    begun = 0
    for _ in range(things):
        running = plain.opened(found)
        way = random.random()
        if way < 0.25 or not running:
            if len(found[1]) < most:
                found = (found[0], found[1] + ((begun, False, plain.committed(found), ()),))
            begun += 1
        elif way < 0.37:
            number = random.choice(running)
            found = (found[0], tuple((e[0], True, e[2], e[3]) if e[0] == number else e for e in found[1]))
        elif way < 0.42:
            number = random.choice(running)
            found = (found[0], tuple(e for e in found[1] if e[0] != number))
        else:
            one = event(random, system)
            longer = plain.with_answer(found, (random.choice(running),) + one[:2], one[2])
            if plain.is_fine(system, longer):
                found = longer
    return found


def fine_log(random, system, most=4):
    """A fine log with an open entry."""
    while True:
        if random.random() < 0.5:
            found = walked(random, system, random.randrange(3, 14), most)
        else:
            found = log(random, system, most)
        if plain.opened(found) and plain.is_fine(system, found):
            return found


def history(random, system, things, most=5):
    """A drawn history, perhaps not a sound one."""
    found = []
    running = []
    kept = 0
    begun = 0
    for _ in range(things):
        way = random.random()
        if (way < 0.3 or not running) and kept < most:
            found.append(("begin",))
            running.append(begun)
            begun += 1
            kept += 1
        elif running and way < 0.4:
            found.append(("commit", running.pop(random.randrange(len(running)))))
        elif running and way < 0.5:
            found.append(("abort", running.pop(random.randrange(len(running)))))
            kept -= 1
        elif running:
            found.append(("did", random.choice(running)) + event(random, system))
    return tuple(found)


def some_things(random, kind, many, most=4, share_sound=0.9):
    """Things of an object that decides alone; most answers leave them sound alone."""
    found = ()
    gone = set()
    numbers = [random.choice([0, 1, 2, 3, 10 ** 20, 7, 8, 9, 55, 6]) for _ in range(12)]
    for _ in range(many):
        left = [number for number in numbers if number not in gone]
        if not left:
            break
        way = random.random()
        number = random.choice(left)
        if way < 0.2:
            found += ((random.choice(["commit", "commit", "abort"]), number),)
            gone.add(number)
        else:
            longer = found + (("did", number) + random.choice(kind.events),)
            unsettled = len(plain_alone.kept(longer))
            if unsettled <= most and (random.random() > share_sound or plain_alone.is_sound_now(kind, longer)):
                found = longer
    return found
