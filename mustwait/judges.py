"""Judges: what each control lets, step by step.

A judge has a state for each history: first() for the empty one, after(state,
thing) for one with a further thing. It tells by lets(state, thing) whether the
control lets an answer there, and by key(state), for a system of one object, all
that later answers depend on, but for the transactions that have got nothing.
"""

from mustwait.cubes import Cube
from mustwait.logs import first_log, with_event, with_thing
from mustwait.machines import led_by
from mustwait.orders import first_unfit
from mustwait.searches import Memory
from mustwait.subsets import subsets
from mustwait.tables import aside, in_place, stamp_table


def judge_of(control, system, most):
    """The judge of a control."""
    if control == "in place":
        return PlaceJudge(system, [in_place(kind) for kind in system])
    if control == "aside":
        return AsideJudge(system, [aside(kind) for kind in system])
    if control == "stamps":
        return AsideJudge(system, [stamp_table(kind) for kind in system])
    if control == "cube":
        return CubeJudge(system, most)
    return OrdersJudge(system)


class Past:
    """What came to one object so far."""

    def __init__(self, things, place):
        # In the order in which they came: so the committed ones stand in the order of their commits.
        self.ended = {thing[1]: thing[0] for thing in things if thing[0] == "commit" or thing[0] == "abort"}
        self.got = [thing for thing in things if thing[0] == "did" and thing[2] == place]

    def stayed(self, struck):
        """The events of all but those that have aborted, and those that are struck, in the order of the things."""
        return [thing[3:] for thing in self.got if self.ended.get(thing[1]) != "abort" and thing[1] not in struck]

    def committed_row(self):
        """The events of the committed ones, in the order of their commits."""
        return [event for number, word in self.ended.items() if word == "commit" for event in self.row_at(number)]

    def row_at(self, number):
        """The events of a transaction."""
        return [thing[3:] for thing in self.got if thing[1] == number]

    def busy(self):
        """The open transactions that have got something, ascending."""
        return sorted({thing[1] for thing in self.got if thing[1] not in self.ended})


class TableJudge:
    """A control by a table; its states are the things that came so far."""

    def __init__(self, system, tables):
        self.moves = [kind.moves for kind in system]
        self.pairs = [{pair: True for pair in table} for table in tables]

    def first(self):
        """The state of the empty history."""
        return ()

    def after(self, things, thing):
        """The state behind one more thing."""
        return things + (thing,)

    def lets(self, things, thing):
        """Whether the control lets an answer."""
        past = Past(things, thing[2])
        events = self.beneath(past, thing[1]) + [thing[3:]]
        return led_by(self.moves[thing[2]], 0, events) is not None and not self._is_barred(past, thing)

    def _is_barred(self, past, thing):
        pairs = self.pairs[thing[2]]
        others = [one[3:] for one in past.got if one[1] != thing[1] and one[1] not in past.ended]
        return any([(thing[3:], event) in pairs for event in others])

    def key(self, things):
        """All that later answers depend on."""
        past = Past(things, 0)
        busy = past.busy()
        return (tuple(self.leads(past, busy)), tuple([(number, self._barred_by(past, number)) for number in busy]))

    def _barred_by(self, past, number):
        row = past.row_at(number)
        return tuple(sorted({p for p, q in self.pairs[0] if q in row}))


class PlaceJudge(TableJudge):
    """Events are done at once, and struck if their transaction aborts."""

    def beneath(self, past, number):
        """The events behind which one of a transaction is to be legal."""
        return past.stayed(())

    def leads(self, past, busy):
        """The states behind what stays, whichever of the open transactions abort."""
        return [led_by(self.moves[0], 0, past.stayed(struck)) for struck in subsets(busy)]


class AsideJudge(TableJudge):
    """Events are done at the commits."""

    def beneath(self, past, number):
        """The events behind which one of a transaction is to be legal."""
        return past.committed_row() + past.row_at(number)

    def leads(self, past, busy):
        """The state behind the committed ones, and where the open ones lead from each state."""
        moves = self.moves[0]
        return [led_by(moves, 0, past.committed_row())] + [leads_from_all(moves, past.row_at(one)) for one in busy]


def leads_from_all(moves, events):
    """For each state the state to which events lead, or None."""
    return tuple([led_by(moves, state, events) for state in range(len(moves))])


class CubeJudge:
    """Each object decides alone; the states have for each object what it keeps."""

    def __init__(self, system, most):
        self.cubes = [Cube(kind, most) for kind in system]

    def first(self):
        """The state of the empty history."""
        return tuple([cube.first() for cube in self.cubes])

    def after(self, sights, thing):
        """The state behind one more thing, if it is let."""
        if thing[0] == "begin":
            return sights
        told = thing[:2] + thing[3:]
        seeing = [thing[0] != "did" or place == thing[2] for place in range(len(sights))]
        pairs = zip(self.cubes, sights, seeing)
        return tuple([cube.behind(sight, told) if sees else sight for cube, sight, sees in pairs])

    def lets(self, sights, thing):
        """Whether the control lets an answer."""
        cube = self.cubes[thing[2]]
        return cube.lets(sights[thing[2]].with_event(cube.kind, thing[1], thing[3:]))

    def key(self, sights):
        """All that later answers depend on."""
        sight = sights[0]
        return (sight.starts, tuple(sorted(sight.rows.items())), tuple(sorted(sight.earlier.items())), sight.closed)


class OrdersJudge:
    """The log stays fine; the states are the log and the number of transactions that have begun."""

    def __init__(self, system):
        self.system = system
        self.memory = Memory()

    def first(self):
        """The state of the empty history."""
        return (first_log(self.system), 0)

    def after(self, state, thing):
        """The state behind one more thing."""
        log, begun = state
        return (with_thing(log, thing, begun), begun + 1 if thing[0] == "begin" else begun)

    def lets(self, state, thing):
        """Whether the control lets an answer."""
        return first_unfit(self.system, with_event(state[0], thing[1], thing[2:]), thing[1], self.memory) is None

    def key(self, state):
        """All that later answers depend on."""
        moves = self.system[0].moves
        rows = [leads_from_all(moves, [event[1:] for event in entry[3]]) for entry in state[0][1] if entry[3] != ()]
        return tuple([entry[:3] for entry in state[0][1]]), tuple(rows)
