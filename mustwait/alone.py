"""Objects that decide alone: their things, whether these are sound alone, and the answers of the cube."""

from mustwait.checks import events_of, is_answer
from mustwait.cubes import Cube
from mustwait.errors import NoOperation, NotOpen
from mustwait.kinds import MOST, is_number


def is_things(kind, thing):
    """Whether any value is a tuple of the things of an object."""
    if not isinstance(thing, tuple):
        return False
    events = events_of((kind,))
    closed = {}
    for part in thing:
        if not _is_thing(events, closed, part):
            return False
        if part[0] != "did":
            closed[part[1]] = True
    return True


def _is_thing(events, closed, thing):
    """Whether any value is a thing of an object at which some numbers have committed or aborted."""
    if not isinstance(thing, tuple) or len(thing) not in (2, 4):
        return False
    if not is_number(thing[1]) or thing[1] in closed:
        return False
    if len(thing) == 2:
        return thing[0] == "commit" or thing[0] == "abort"
    return thing[0] == "did" and is_answer(events, 0, thing[2], thing[3])


def is_sound_alone(kind, things):
    """Whether behind each of the things all orders of each outcome are legal."""
    cube = Cube(kind, MOST)
    sight = cube.first()
    for thing in things:
        sight = sight.with_thing(kind, thing)
        # Only answers can break it.
        if thing[0] == "did" and sight.reach(sight.numbers) is None:
            return False
        sight = sight.shortened()
    return True


def reaches(kind, things, outcome):
    """The states to which the orders of an outcome lead, ascending; the things are sound alone."""
    sight = _sight_of(Cube(kind, MOST), things)
    members = sight.closed + outcome
    return sight.reach(members)[sight.mask(members)]


def _sight_of(cube, things):
    sight = cube.first()
    for thing in things:
        sight = cube.behind(sight, thing)
    return sight


def cube_answers(kind, things, number, operation, *, most=MOST):
    """The answers that the cube gives a transaction behind the things, ascending."""
    cube = Cube(kind, most)
    return cube.answers(_sight_of(cube, things), number, operation)


class Alone:
    """An object that decides alone by the cube."""

    def __init__(self, kind, *, most=MOST):
        self.kind = kind
        self.most = most
        self.cube = Cube(kind, most)
        self.sight = self.cube.first()
        self.seen = ()
        self.gone = {}

    @property
    def things(self):
        """The things of the object."""
        return self.seen

    @property
    def kept(self):
        """The transactions that count and are not settled here, ascending."""
        return self.sight.numbers

    def ask(self, number, operation):
        """The first answer that the cube gives, or None if it gives none."""
        self._check_open(number)
        if operation not in self.kind.operations:
            raise NoOperation(operation)
        answers = self.cube.answers(self.sight, number, operation)
        if answers == ():
            return None
        self._take(("did", number, operation, answers[0]))
        return answers[0]

    def commit(self, number):
        """Tells the object that a transaction commits."""
        self._check_open(number)
        self._take(("commit", number))
        self.gone[number] = True

    def abort(self, number):
        """Tells the object that a transaction aborts."""
        self._check_open(number)
        self._take(("abort", number))
        self.gone[number] = True

    def _check_open(self, number):
        if number in self.gone:
            raise NotOpen(number)

    def _take(self, thing):
        self.sight = self.cube.behind(self.sight, thing)
        self.seen = self.seen + (thing,)
