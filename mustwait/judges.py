"""Judges: what each control lets, step by step.

A judge has a state for each history: first() for the empty one, after(state,
thing) for one with a further thing. It tells by lets(state, thing) whether the
control lets an answer there, and by key(state), for a system of one object, all
that later answers depend on, but for the transactions that have got nothing.
"""

from mustwait.cubes import Cube
from mustwait.logs import first_log, with_event, with_thing
from mustwait.machines import led_by
from mustwait.orders import first_unfit
from mustwait.searches import Memory
from mustwait.subsets import subsets
from mustwait.tables import aside, in_place, stamp_table


def judge_of(control, system, most):
    """The judge of a control."""
    if control == "in place":
        return TableJudge(system, [in_place(kind) for kind in system], True)
    if control == "aside":
        return TableJudge(system, [aside(kind) for kind in system], False)
    if control == "stamps":
        return TableJudge(system, [stamp_table(kind) for kind in system], False)
    if control == "cube":
        return CubeJudge(system, most)
    return OrdersJudge(system)


class Past:
    """What came to one object so far."""

    def __init__(self, things, place):
        # In the order in which they came: so the committed ones stand in the order of their commits.
        self.ended = {thing[1]: thing[0] for thing in things if thing[0] == "commit" or thing[0] == "abort"}
        self.got = [thing for thing in things if thing[0] == "did" and thing[2] == place]

    def stayed(self, struck):
        """The events of all but those that have aborted, and those that are struck, in the order of the things."""
        return [thing[3:] for thing in self.got if self.ended.get(thing[1]) != "abort" and thing[1] not in struck]

    def committed_row(self):
        """The events of the committed ones, in the order of their commits."""
        return [event for number, word in self.ended.items() if word == "commit" for event in self.row_at(number)]

    def row_at(self, number):
        """The events of a transaction."""
        return [thing[3:] for thing in self.got if thing[1] == number]

    def busy(self):
        """The open transactions that have got something, ascending."""
        return sorted({thing[1] for thing in self.got if thing[1] not in self.ended})


class TableJudge:
    """A control by a table, of events done at once or at the commits; its states are the things that came so far."""

    def __init__(self, system, tables, at_once):
        self.moves = [kind.moves for kind in system]
        self.pairs = [{pair: True for pair in table} for table in tables]
        self.at_once = at_once

    def first(self):
        """The state of the empty history."""
        return ()

    def after(self, things, thing):
        """The state behind one more thing."""
        return things + (thing,)

    def lets(self, things, thing):
        """Whether the control lets an answer."""
        past = Past(things, thing[2])
        events = self._beneath(past, thing[1]) + [thing[3:]]
        return led_by(self.moves[thing[2]], 0, events) is not None and not self._is_barred(past, thing)

    def _beneath(self, past, number):
        """The events behind which one of a transaction is to be legal."""
        if self.at_once:
            return past.stayed(())
        return past.committed_row() + past.row_at(number)

    def _is_barred(self, past, thing):
        pairs = self.pairs[thing[2]]
        others = [one[3:] for one in past.got if one[1] != thing[1] and one[1] not in past.ended]
        return any([(thing[3:], event) in pairs for event in others])

    def key(self, things):
        """All that later answers depend on."""
        past = Past(things, 0)
        busy = past.busy()
        return (tuple(self._leads(past, busy)), tuple([(number, self._barred_by(past, number)) for number in busy]))

    def _barred_by(self, past, number):
        row = past.row_at(number)
        return tuple(sorted({p for p, q in self.pairs[0] if q in row}))

    def _leads(self, past, busy):
        """The states, or the rows of states, by which later answers are legal or not."""
        moves = self.moves[0]
        if self.at_once:
            # Any of the open ones may abort, and then its events are struck.
            return [led_by(moves, 0, past.stayed(struck)) for struck in subsets(busy)]
        return [led_by(moves, 0, past.committed_row())] + [leads_from_all(moves, past.row_at(one)) for one in busy]


def leads_from_all(moves, events):
    """For each state the state to which events lead, or None."""
    return tuple([led_by(moves, state, events) for state in range(len(moves))])


class CubeJudge:
    """Each object decides alone; the states have for each object what it keeps."""

    def __init__(self, system, most):
        self.cubes = [Cube(kind, most) for kind in system]

    def first(self):
        """The state of the empty history."""
        return tuple([cube.first() for cube in self.cubes])

    def after(self, sights, thing):
        """The state behind one more thing, if it is let."""
        return tuple([self._behind(place, sight, thing) for place, sight in enumerate(sights)])

    def _behind(self, place, sight, thing):
        """What one object keeps: commits and aborts come to all objects, answers to one."""
        if thing[0] == "begin" or (thing[0] == "did" and thing[2] != place):
            return sight
        return self.cubes[place].behind(sight, thing[:2] + thing[3:])

    def lets(self, sights, thing):
        """Whether the control lets an answer."""
        cube = self.cubes[thing[2]]
        return cube.lets(sights[thing[2]].with_event(cube.kind, thing[1], thing[3:]))

    def key(self, sights):
        """All that later answers depend on."""
        sight = sights[0]
        return (sight.starts, tuple(sorted(sight.rows.items())), tuple(sorted(sight.earlier.items())), sight.closed)


class OrdersJudge:
    """The log stays fine; the states are the log and the number of transactions that have begun."""

    def __init__(self, system):
        self.system = system
        self.memory = Memory()

    def first(self):
        """The state of the empty history."""
        return (first_log(self.system), 0)

    def after(self, state, thing):
        """The state behind one more thing."""
        log, begun = state
        return (with_thing(log, thing, begun), begun + 1 if thing[0] == "begin" else begun)

    def lets(self, state, thing):
        """Whether the control lets an answer."""
        return first_unfit(self.system, with_event(state[0], thing[1], thing[2:]), thing[1], self.memory) is None

    def key(self, state):
        """All that later answers depend on."""
        moves = self.system[0].moves
        rows = [leads_from_all(moves, [event[1:] for event in entry[3]]) for entry in state[0][1] if entry[3] != ()]
        return tuple([entry[:3] for entry in state[0][1]]), tuple(rows)
