"""Kinds: finite machines that say which answers an operation may get in which state."""

from mustwait.errors import InvalidText, NoKind
from mustwait.machines import first_beyond, first_difference, least_states, led_by, moves_of, reached_from
from mustwait.texts import states_of_text, text_of_states

MOST = 5000

MOST_STATES = 40
MOST_EVENTS = 24
MOST_LETTERS = 12
LETTERS = "abcdefghijklmnopqrstuvwxyz0123456789"


def is_word(thing):
    """Whether any value is a word."""
    if not isinstance(thing, str) or not 1 <= len(thing) <= MOST_LETTERS:
        return False
    return all([letter in LETTERS for letter in thing])


def is_number(thing):
    """Whether any value is an integer from 0 on."""
    return isinstance(thing, int) and not isinstance(thing, bool) and thing >= 0


def is_states(thing):
    """Whether any value is the tuple of the states of a kind."""
    if not isinstance(thing, tuple) or not 1 <= len(thing) <= MOST_STATES:
        return False
    if not all([_is_state(state, len(thing)) for state in thing]):
        return False
    return len({step[:2] for state in thing for step in state}) <= MOST_EVENTS


def _is_state(thing, many):
    if not isinstance(thing, tuple) or not all([_is_step(step, many) for step in thing]):
        return False
    events = [step[:2] for step in thing]
    return events == sorted(set(events))


def _is_step(thing, many):
    if not isinstance(thing, tuple) or len(thing) != 3:
        return False
    return is_word(thing[0]) and is_word(thing[1]) and is_number(thing[2]) and thing[2] < many


class Kind:
    """A kind: its states, numbered from 0, each with its events and where they lead."""

    def __init__(self, *states):
        if not is_states(states):
            raise NoKind()
        self.states = states
        self.moves = moves_of(states)

    @classmethod
    def of(cls, states):
        """The kind with a tuple of states."""
        if not isinstance(states, tuple):
            raise NoKind()
        return cls(*states)

    @classmethod
    def read(cls, text):
        """The kind with a text."""
        if not isinstance(text, str):
            raise InvalidText()
        states = states_of_text(text)
        if not is_states(states):
            raise InvalidText()
        return cls(*states)

    def __eq__(self, other):
        return isinstance(other, Kind) and self.states == other.states

    def __len__(self):
        return len(self.states)

    @property
    def events(self):
        """All events, ascending."""
        return tuple(sorted({step[:2] for state in self.states for step in state}))

    @property
    def operations(self):
        """All operations, ascending."""
        return tuple(sorted({step[0] for state in self.states for step in state}))

    @property
    def least(self):
        """The least kind with the same legal sequences."""
        states = least_states(self.states)
        return Kind(*states)

    @property
    def text(self):
        """The text of the kind."""
        return text_of_states(self.states)

    def answers(self, state, operation):
        """The answers that a word has at a state as an operation, ascending."""
        return tuple([step[1] for step in self.states[state] if step[0] == operation])

    def led(self, state, *events):
        """The state to which the events lead from a state, or None."""
        return led_by(self.moves, state, events)

    def reached(self, *states):
        """All states to which sequences lead from these states, ascending."""
        return reached_from(self.moves, states)

    def allows(self, one, other):
        """Whether each sequence that is legal at the other state is legal at the one, too."""
        return first_beyond(self.moves, other, self.moves, one) is None

    def alike(self, one, other):
        """Whether each of two states allows the other one."""
        return self.allows(one, other) and self.allows(other, one)

    def difference(self, other):
        """The first sequence that is legal at state 0 of exactly one of two kinds, or None."""
        return first_difference(self.moves, other.moves)
