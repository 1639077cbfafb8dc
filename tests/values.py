"""Values for the tests: values of all kinds, changed values, random kinds."""

from mustwait.builders import account, switch
from mustwait.kinds import Kind


def nested(depth, wrap):
    thing = wrap(0)
    for _ in range(depth - 1):
        thing = wrap(thing)
    return thing


DEEP = [
    nested(200, lambda thing: (thing,)),
    nested(200, lambda thing: [thing]),
    nested(200, lambda thing: {"a": thing}),
    nested(100, lambda thing: (("a", "b", thing),)),
]

ANY_VALUES = [
    None, True, False, 0, 1, -1, 40, 10 ** 39, -(10 ** 39),
    "", "a", "A", "a b", "a\n", "\n", "-", "~", "0", "00", "z" * 12, "z" * 13, "a" * 4000, "\n" * 4000,
    (), ((),), ((), ()), ("a",), ("a", "b"), ("a", "b", 0), (("a", "b", 0),), ((("a", "b", 0),),),
    [], [()], [[]], ["a"], ["a", "b", 0], ([],), ([["a", "b", 0]],), ((["a", "b", 0],),),
    {}, {"a": 1}, {1: "a"}, {None: None}, {(): []}, ({},), (({},),), ((({},),),),
    tuple(range(19000)), list(range(19000)), ((),) * 19000, (("a", "b", 0),) * 5000, ("a",) * 19000,
    {number: number for number in range(9000)},
    *DEEP,
    Kind(()), account(2, 1), (Kind(()),), switch().states, [list(state) for state in switch().states],
]


def copied(thing):
    """The value once more, without a common list or dict."""
    if isinstance(thing, (tuple, list)):
        return type(thing)([copied(part) for part in thing])
    if isinstance(thing, dict):
        return {key: copied(part) for key, part in thing.items()}
    return thing


def changed(random, thing):
    """The value with a part, at any depth, left out, doubled, turned about or replaced."""
    if isinstance(thing, (tuple, list)) and thing and random.random() < 0.85:
        parts = list(thing)
        at = random.randrange(len(parts))
        way = random.randrange(12)
        if way == 0:
            del parts[at]
        elif way == 1:
            parts.insert(at, parts[at])
        elif way == 2:
            parts.reverse()
        elif way == 3:
            other = random.randrange(len(parts))
            parts[at], parts[other] = parts[other], parts[at]
        elif way == 4 and random.random() < 0.3:
            return list(parts)
        elif way == 5:
            return parts[at]
        else:
            parts[at] = changed(random, parts[at])
        return tuple(parts) if isinstance(thing, tuple) else parts
    if isinstance(thing, int) and random.random() < 0.7:
        return random.choice([thing + 1, thing - 1, 0, True, False, str(thing), -thing, None])
    if isinstance(thing, str) and random.random() < 0.7:
        return random.choice([thing + "a", thing[:-1], thing.upper(), "0" + thing, thing + " ", thing + "\n", thing * 4])
    return random.choice(ANY_VALUES[:48])


def random_states(random, states, words, share=0.5):
    """The states of a random kind."""
    rows = []
    for _ in range(states):
        row = []
        for operation in sorted(words):
            for answer in sorted(words):
                if random.random() < share:
                    row.append((operation, answer, random.randrange(states)))
        rows.append(tuple(row))
    return tuple(rows)
