"""Builders of common kinds. Each one returns a least kind or raises NoKind."""

from mustwait.errors import NoKind
from mustwait.kinds import MOST_STATES, Kind, is_number, is_word

# From this number on the word takeN has more than twelve characters. It is looked
# at ahead of making words, for Python writes no numbers of thousands of digits.
TOO_LONG = 100000000


def cell(*words):
    """Holds one of the words, at first the first one."""
    _check_words(words)

    def moves(held):
        return [("read", held, held)] + [("set" + word, "ok", word) for word in words]

    return _grown(words[0], moves)


def counter(most):
    """Holds a number from 0 to most, at first 0, that is read and counted up and down."""
    _check_number(most, 0)

    def moves(held):
        steps = [("read", str(held), held)]
        if held < most:
            steps.append(("add", "ok", held + 1))
        if held > 0:
            steps.append(("sub", "ok", held - 1))
        return steps

    return _grown(0, moves)


def account(most, *amounts):
    """Holds a number from 0 to most, at first 0; the amounts are put in and taken out."""
    _check_number(most, 0)
    _check_amounts(most, amounts)

    def moves(held):
        return [_put(most, held, amount) for amount in amounts] + [_take(held, amount) for amount in amounts]

    return _grown(0, moves)


def queue(places, *words):
    """Holds words in places; the one that was put first is taken."""
    return _holder(places, words, _behind, _first)


def stack(places, *words):
    """Holds words in places; the one that was put last is taken."""
    return _holder(places, words, _ahead, _first)


def pool(places, *words):
    """Holds words in places; any one is taken."""
    return _holder(places, words, _among, _each)


def switch():
    """Is off at first, and on from the first turn on."""

    def moves(held):
        return [("look", held, held), ("turn", "ok", "on")]

    return _grown("off", moves)


def tickets(most):
    """Gives the numbers from 1 to most, one by one."""
    _check_number(most, 0)

    def moves(given):
        return [("next", str(given + 1), given + 1)] if given < most else []

    return _grown(0, moves)


def permits(many):
    """Lets so many permits be out at once."""
    _check_number(many, 0)

    def moves(out):
        steps = []
        if out < many:
            steps.append(("get", "ok", out + 1))
        if out > 0:
            steps.append(("back", "ok", out - 1))
        return steps

    return _grown(0, moves)


def beside(one, other):
    """Two kinds as one; an l or an r in front of an operation tells which one is meant."""
    left = one.least
    right = other.least

    def moves(pair):
        mine, theirs = pair
        steps = [("l" + operation, answer, (goal, theirs)) for operation, answer, goal in left.states[mine]]
        return steps + [("r" + operation, answer, (mine, goal)) for operation, answer, goal in right.states[theirs]]

    return _grown((0, 0), moves)


def _check_number(thing, least):
    if not is_number(thing) or thing < least:
        raise NoKind()


def _check_words(words):
    if not words or not all([is_word(word) for word in words]) or len(set(words)) < len(words):
        raise NoKind()


def _check_amounts(most, amounts):
    for amount in amounts:
        if not is_number(amount) or not 1 <= amount <= most or amount >= TOO_LONG:
            raise NoKind()
    if len(set(amounts)) < len(amounts):
        raise NoKind()


def _put(most, held, amount):
    if held + amount > most:
        return (f"put{amount}", "full", held)
    return (f"put{amount}", "ok", held + amount)


def _take(held, amount):
    if held < amount:
        return (f"take{amount}", "no", held)
    return (f"take{amount}", "ok", held - amount)


def _behind(held, word):
    return held + (word,)


def _ahead(held, word):
    return (word,) + held


def _among(held, word):
    return tuple(sorted(held + (word,)))


def _first(held):
    return list(held[:1])


def _each(held):
    return sorted(set(held))


def _without(held, word):
    at = held.index(word)
    return held[:at] + held[at + 1:]


def _holder(places, words, put_in, to_take):
    """A kind that holds words: put_in says where a word goes, to_take which ones may be taken."""
    _check_number(places, 1)
    _check_words(words)

    def moves(held):
        steps = [("take", word, _without(held, word)) for word in to_take(held)]
        if len(held) == places:
            return steps
        return steps + [("put" + word, "ok", put_in(held, word)) for word in words]

    return _grown((), moves)


def _grown(first, moves):
    """The kind whose states are the values to which moves lead from the first one.

    Moves gives the tuples (operation, answer, value) of a value. The values are
    numbered as in a least kind; all callers have values no two of which are
    alike, so the kind is a least one without looking at it again.
    """
    numbers = {first: 0}
    values = [first]
    states = []
    while len(states) < len(values):
        steps = sorted(moves(values[len(states)]))
        for step in steps:
            value = step[2]
            if value not in numbers:
                # Looked at here, not behind it: there may be any number of values.
                if len(values) == MOST_STATES:
                    raise NoKind()
                numbers[value] = len(values)
                values.append(value)
        states.append(tuple([(operation, answer, numbers[goal]) for operation, answer, goal in steps]))
    return Kind(*states)
