"""Promise [33] once more: a console over a store of its own, written another way."""

import re

from mustwait import builders
from mustwait.errors import Full, InvalidCommand, Never
from mustwait.kinds import MOST
from mustwait.stores import Store

NUMBER = "(0|[1-9][0-9]*)"
WORD = "([a-z0-9]{1,12})"
OBJECTS = {
    "cell": f"( {WORD})+", "counter": f" {NUMBER}", "account": f" {NUMBER}( {NUMBER})+", "queue": f" {NUMBER}( {WORD})+",
    "pool": f" {NUMBER}( {WORD})+", "stack": f" {NUMBER}( {WORD})+", "switch": "", "tickets": f" {NUMBER}",
    "permits": f" {NUMBER}",
}


def numbers(found):
    return " ".join(map(str, found)) or "none"


class PlainConsole:
    def __init__(self, most=MOST):
        self.kinds = []
        self.store = None
        self.most = most

    def say(self, command):
        if type(command) is not str or not re.fullmatch("[a-z0-9]+( [a-z0-9]+)*", command):
            raise InvalidCommand()
        word, *rest = command.split(" ")
        if word == "object" and rest and rest[0] in OBJECTS and len(self.kinds) < 4 and self.store is None:
            return self.add(rest[0], command[len("object " + rest[0]):])
        if not self.kinds or word == "object":
            raise InvalidCommand()
        if command == "begin":
            return self.begin()
        if command in ("running", "kept", "waiting", "knot"):
            return self.listed(command)
        if self.store is None or not rest or not re.fullmatch(NUMBER, rest[0]) or int(rest[0]) not in self.store.running:
            raise InvalidCommand()
        number = int(rest[0])
        if word == "ask" and len(rest) == 3 and rest[1] in [str(at) for at in range(len(self.kinds))]:
            return self.ask(number, int(rest[1]), rest[2])
        if len(rest) != 1 or word not in ("drop", "commit", "abort", "why"):
            raise InvalidCommand()
        if word == "why":
            return self.why(number)
        getattr(self.store, word)(number)
        return "ok" + self.news()

    def add(self, name, rest):
        if not re.fullmatch(OBJECTS[name], rest):
            raise InvalidCommand()
        parts = [int(word) if name not in ("cell",) and (at == 0 or name == "account") else word
                 for at, word in enumerate(rest.split())]
        try:
            self.kinds.append(getattr(builders, name)(*parts))
        except builders.NoKind:
            raise InvalidCommand()
        return str(len(self.kinds) - 1)

    def begin(self):
        if self.store is None:
            self.store = Store(*self.kinds, most=self.most)
        try:
            return str(self.store.begin())
        except Full:
            return "full"

    def listed(self, word):
        if self.store is None:
            return "none"
        if word == "kept":
            return numbers(entry[0] for entry in self.store.log[1])
        return numbers(self.store.knot() if word == "knot" else getattr(self.store, word))

    def ask(self, number, place, operation):
        if operation not in self.kinds[place].operations or number in self.store.waiting:
            raise InvalidCommand()
        try:
            answer = self.store.ask(number, place, operation)
        except Never:
            return "never"
        return ("waits" if answer is None else answer) + self.news()

    def news(self):
        return "".join(f"; {number} {'never' if answer is None else answer}" for number, answer in self.store.news)

    def why(self, number):
        if number not in self.store.waiting:
            raise InvalidCommand()
        found = self.store.why(number)
        if found[0] != "waits":
            return "operations"
        told = []
        for answer, commits, aborts in found[2]:
            ends = {**{one: "commits" for one in commits}, **{one: "aborts" for one in aborts}}
            told.append(answer + " if" + "".join(f" {one} {ends[one]}" for one in sorted(ends)))
        return "; ".join(told)
