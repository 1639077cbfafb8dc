"""A store once more, as promises [16] to [19] say it, by a plain look through everything."""

import plain
from mustwait.errors import Full, IsWaiting, Never, NoObject, NoOperation, NotOpen, TooMany

ALL = 10 ** 9


def is_int(thing):
    return type(thing) is int


def verdict(system, log, wish, most):
    """The status of a wish and the first answer that can be given."""
    if max(plain.count_orders(system, log, wish)) > most:
        raise TooMany(most)
    for answer in plain.possible_answers(system, wish):
        if plain.is_fine(system, plain.with_answer(log, wish, answer)):
            return ("given", answer)
    if any(plain.good_sets(system, log, wish, answer) for answer in plain.possible_answers(system, wish)):
        return ("waits", None)
    if max(plain.count_stories(system, log, wish)) > most:
        raise TooMany(most)
    return ("later" if plain.has_story(system, log, wish) else "never", None)


class PlainStore:
    def __init__(self, system, most=ALL, folds=True):
        self.system, self.most, self.folds = system, most, folds
        self.log = (((0,) * len(system),), ())
        self.wishes = ()
        self.news = ()
        self.begun = 0

    def copied(self):
        other = PlainStore(self.system, self.most, self.folds)
        other.log, other.wishes, other.news, other.begun = self.log, self.wishes, self.news, self.begun
        return other

    @classmethod
    def from_log(cls, system, log, most=ALL):
        store = cls(system, most)
        store.begun = max([entry[0] + 1 for entry in log[1]], default=0)
        store.log = (log[0], tuple(entry for entry in log[1] if entry[1]))
        store.fold()
        return store

    @property
    def running(self):
        return plain.opened(self.log)

    @property
    def waiting(self):
        return tuple(wish[0] for wish in self.wishes)

    def begin(self):
        done = plain.committed(self.log)
        if len(self.log[1]) >= 10:
            raise Full(tuple(entry[0] for entry in self.log[1] if not entry[1] and set(entry[2]) != set(done)))
        self.log = (self.log[0], self.log[1] + ((self.begun, False, done, ()),))
        self.begun += 1
        return self.begun - 1

    def check(self, number):
        if not is_int(number) or number not in self.running:
            raise NotOpen(number)

    def ask(self, number, place, operation):
        self.check(number)
        if not is_int(place) or place not in range(len(self.system)):
            raise NoObject(place)
        if not any(step[0] == operation for state in self.system[place].states for step in state):
            raise NoOperation(operation)
        if number in self.waiting:
            raise IsWaiting(number)
        wish = (number, place, operation)
        status, answer = verdict(self.system, self.log, wish, self.most)
        if status == "never":
            raise Never(number)
        if answer is None:
            self.wishes += (wish,)
            self.news = ()
        else:
            self.log = plain.with_answer(self.log, wish, answer)
            self.look()
        return answer

    def drop(self, number):
        self.check(number)
        self.forget(number)
        self.news = ()

    def forget(self, number):
        self.wishes = tuple(wish for wish in self.wishes if wish[0] != number)

    def commit(self, number):
        self.check(number)
        self.forget(number)
        self.log = (self.log[0], tuple((e[0], True, e[2], e[3]) if e[0] == number else e for e in self.log[1]))
        self.look()

    def abort(self, number):
        self.check(number)
        self.forget(number)
        self.log = (self.log[0], tuple(entry for entry in self.log[1] if entry[0] != number))
        self.look()

    def look(self):
        self.news = ()
        again = True
        while again:
            again = False
            for wish in self.wishes:
                try:
                    status, answer = verdict(self.system, self.log, wish, self.most)
                except TooMany:
                    continue
                if status in ("given", "never"):
                    self.news += ((wish[0], answer),)
                    self.forget(wish[0])
                if status == "given":
                    self.log = plain.with_answer(self.log, wish, answer)
                    again = True
                    break
        self.fold()

    def fold(self):
        if self.folds and len(plain.story_nodes(self.system, self.log, None)) <= self.most:
            self.log = plain.folded(self.system, self.log)

    # Knots and remedies, by all sets

    def knot(self):
        sorts = {}
        for wish in self.wishes:
            sorts[wish[0]] = (wish, verdict(self.system, self.log, wish, self.most)[0])
        knots = [chosen for chosen in plain.subsets(sorts) if all(self.holds(*sorts[one], chosen) for one in chosen)]
        greatest = max(knots, key=len)
        assert all(set(chosen) <= set(greatest) for chosen in knots)
        return greatest

    def holds(self, wish, status, chosen):
        if status == "waits":
            return all(set(ins + outs) & set(chosen) for _, ins, outs in plain.releases(self.system, self.log, wish))
        held = [one for one in chosen if one != wish[0]]
        return status == "later" and not plain.has_story(self.system, self.log, wish, held)

    def remedies(self):
        knot = self.knot()
        if not knot:
            return ()
        ending = []
        for chosen in plain.subsets(knot):
            other = self.copied()
            for number in chosen:
                other.abort(number)
            if not set(other.knot()) & set(knot):
                ending.append(chosen)
        return tuple(one for one in ending if not any(set(other) < set(one) for other in ending))
