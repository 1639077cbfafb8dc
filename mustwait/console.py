"""A console: it executes commands on a store, line by line."""

from mustwait.builders import account, cell, counter, permits, pool, queue, stack, switch, tickets
from mustwait.errors import Full, InvalidCommand, IsWaiting, Never, NoKind, NoOperation
from mustwait.stores import Store

MOST_OBJECTS = 4

# No builder takes greater numbers, and Python reads none of thousands of digits.
MOST_DIGITS = 1000


class Console:
    """Executes commands, and answers them."""

    def __init__(self):
        self.made = ()
        self.store = None
        self.has_begun = False

    def say(self, command):
        """Executes a command; returns its answer."""
        if not isinstance(command, str):
            raise InvalidCommand()
        words = command.split(" ")
        if words[0] == "object":
            return self._add(words[1:])
        if self.store is None:
            raise InvalidCommand()
        if len(words) == 1:
            return self._begin() if words[0] == "begin" else self._tell(words[0])
        if len(words) == 2:
            return self._act(words[0], self._number_of(words[1]))
        if len(words) == 4 and words[0] == "ask":
            return self._ask(self._number_of(words[1]), words[2], words[3])
        raise InvalidCommand()

    def _add(self, words):
        """Adds an object; returns its number."""
        if self.has_begun or len(self.made) == MOST_OBJECTS or words == []:
            raise InvalidCommand()
        try:
            kind = _built(words[0], words[1:])
        except NoKind:
            raise InvalidCommand()
        self.made = self.made + (kind,)
        # No transaction has begun, so nothing is lost with the store of fewer objects.
        self.store = Store.of(self.made)
        return str(len(self.made) - 1)

    def _begin(self):
        self.has_begun = True
        try:
            return str(self.store.begin())
        except Full:
            return "full"

    def _tell(self, word):
        """Tells the numbers of some transactions."""
        if word == "running":
            return _listed(self.store.running)
        if word == "kept":
            return _listed([entry[0] for entry in self.store.log[1]])
        if word == "waiting":
            return _listed(self.store.waiting)
        if word == "knot":
            return _listed(self.store.knot())
        raise InvalidCommand()

    def _number_of(self, word):
        """The number of an open transaction, from its word."""
        for number in self.store.running:
            if word == str(number):
                return number
        raise InvalidCommand()

    def _act(self, word, number):
        """What is done with a transaction."""
        if word == "why":
            return self._why(number)
        if word == "drop":
            self.store.drop(number)
        elif word == "commit":
            self.store.commit(number)
        elif word == "abort":
            self.store.abort(number)
        else:
            raise InvalidCommand()
        return "ok" + self._news()

    def _ask(self, number, place, operation):
        places = [index for index in range(len(self.made)) if place == str(index)]
        if places == []:
            raise InvalidCommand()
        try:
            answer = self.store.ask(number, places[0], operation)
        except Never:
            return "never"
        except (NoOperation, IsWaiting):
            raise InvalidCommand()
        return ("waits" if answer is None else answer) + self._news()

    def _news(self):
        """What came of waiting wishes, to stand behind an answer."""
        return "".join([f"; {number} {_or_never(answer)}" for number, answer in self.store.news])

    def _why(self, number):
        decision = self.store.why(number)
        if decision is None:
            raise InvalidCommand()
        if decision[0] != "waits":
            return "operations"
        return "; ".join([_told(answer, commits, aborts) for answer, commits, aborts in decision[2]])


def _listed(numbers):
    return " ".join([str(number) for number in numbers]) if len(numbers) > 0 else "none"


def _or_never(answer):
    return "never" if answer is None else answer


def _told(answer, commits, aborts):
    """A release in words."""
    parts = sorted([(number, "commits") for number in commits] + [(number, "aborts") for number in aborts])
    return answer + " if" + "".join([f" {number} {word}" for number, word in parts])


def _built(name, rest):
    """The kind that a builder makes, from its name and the words behind it."""
    if name == "cell":
        return cell(*rest)
    if name == "switch" and rest == []:
        return switch()
    if name == "account" and len(rest) >= 2:
        numbers = [_number(word) for word in rest]
        return account(*numbers)
    if name in ("queue", "pool", "stack") and len(rest) >= 2:
        return _holder(name, _number(rest[0]), rest[1:])
    if name in ("counter", "tickets", "permits") and len(rest) == 1:
        return _counted(name, _number(rest[0]))
    raise NoKind()


def _holder(name, places, words):
    if name == "queue":
        return queue(places, *words)
    return pool(places, *words) if name == "pool" else stack(places, *words)


def _counted(name, many):
    if name == "counter":
        return counter(many)
    return tickets(many) if name == "tickets" else permits(many)


def _number(word):
    """The number of a decimal word without leading zeros."""
    if word == "" or len(word) > MOST_DIGITS or not all([letter in "0123456789" for letter in word]):
        raise NoKind()
    if word[0] == "0" and word != "0":
        raise NoKind()
    return int(word)
