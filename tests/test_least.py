"""Promise [5]: what a state allows, alike states, the least kind, the difference."""

import itertools
import random
import unittest

from mustwait.builders import account, cell, counter, queue, switch
from mustwait.kinds import Kind
from values import random_states


def legal(states, start, length):
    """All sequences of at most so many events that are legal at a state."""
    rows = [((), start)]
    found = {()}
    for _ in range(length):
        rows = [(path + (step[:2],), step[2]) for path, state in rows for step in states[state]]
        found |= {path for path, _ in rows}
    return found


def small_kinds(seed, count, most=4, words=("a", "b"), share=0.35):
    chance = random.Random(seed)
    for _ in range(count):
        yield Kind(*random_states(chance, chance.randrange(1, most + 1), words, share))


def ring(many, odd=None):
    """A ring of states; at the odd one there is another event, too."""
    rows = []
    for number in range(many):
        row = [("go", "ok", (number + 1) % many)]
        if number == odd:
            row.append(("stop", "ok", number))
        rows.append(tuple(row))
    return Kind(*rows)


def shuffled(chance, kind, copies):
    """A kind with the same legal sequences: copies of its states in another order, state 0 first."""
    many = len(kind) * copies
    places = list(range(1, many))
    chance.shuffle(places)
    places = [0] + places
    rows = [None] * many
    for number, place in enumerate(places):
        row = kind.states[number % len(kind)]
        rows[place] = tuple((*step[:2], places[step[2] + len(kind) * chance.randrange(copies)]) for step in row)
    return Kind(*rows)


class Allows(unittest.TestCase):
    def test_itself(self):
        for kind in (account(2, 1), ring(40, 7), Kind(())):
            self.assertTrue(all(kind.allows(state, state) is True for state in range(len(kind))))

    def test_the_direction(self):
        kind = Kind((("a", "x", 0), ("b", "x", 0)), (("a", "x", 1),), ())
        found = [[kind.allows(one, other) for other in range(3)] for one in range(3)]
        self.assertEqual(found, [[True, True, True], [False, True, True], [False, False, True]])

    def test_by_name(self):
        kind = Kind((("a", "x", 0),), ())
        self.assertIs(kind.allows(one=0, other=1), True)
        self.assertIs(kind.allows(other=0, one=1), False)

    def test_an_answer_makes_another_event(self):
        kind = Kind((("a", "x", 0),), (("a", "y", 1),))
        self.assertEqual([kind.allows(0, 1), kind.allows(1, 0)], [False, False])

    def test_only_some_steps_away(self):
        rows = [(("go", "ok", number + 1),) for number in range(9)] + [(("end", "ok", 9),)]
        rows += [(("go", "ok", number + 11),) for number in range(9)] + [()]
        kind = Kind(*rows)
        self.assertEqual([kind.allows(0, 10), kind.allows(10, 0), kind.allows(9, 19)], [True, False, True])
        self.assertFalse(kind.alike(0, 10))

    def test_states_that_are_not_reached(self):
        kind = Kind((), (("a", "x", 2),), (("a", "x", 1),))
        self.assertEqual([kind.allows(1, 0), kind.allows(0, 1), kind.alike(1, 2)], [True, False, True])

    def test_against_all_sequences(self):
        for kind in small_kinds(51, 250):
            words = [legal(kind.states, state, 7) for state in range(len(kind))]
            for one, other in itertools.product(range(len(kind)), repeat=2):
                self.assertIs(kind.allows(one, other), words[other] <= words[one])
                self.assertIs(kind.alike(one, other), words[other] == words[one])

    def test_rings_that_differ_after_many_steps(self):
        kind = ring(40, 39)
        self.assertEqual([kind.allows(39, 0), kind.allows(0, 39)], [False, False])
        self.assertEqual([ring(40).allows(0, 17), ring(40).alike(3, 39)], [True, True])

    def test_forty_states(self):
        kind = account(39, 1)
        self.assertEqual(len(kind), 40)
        self.assertFalse(any(kind.allows(0, state) for state in range(1, 40)))


class Alike(unittest.TestCase):
    def test_copies(self):
        kind = Kind((("a", "x", 1),), (("a", "x", 0),), (("a", "x", 2),), (("a", "x", 0), ("b", "x", 0)))
        self.assertEqual([kind.alike(0, 1), kind.alike(1, 2), kind.alike(2, 3), kind.alike(3, 2)], [True, True, False, False])

    def test_states_without_events(self):
        kind = Kind((), (), (("a", "x", 0),))
        self.assertEqual([kind.alike(0, 1), kind.alike(1, 2)], [True, False])

    def test_both_directions_are_needed(self):
        kind = Kind((("a", "x", 0), ("b", "x", 0)), (("a", "x", 1),))
        self.assertEqual([kind.alike(0, 1), kind.alike(1, 0)], [False, False])

    def test_by_name(self):
        self.assertIs(switch().alike(one=0, other=1), False)


class Least(unittest.TestCase):
    def check(self, kind):
        least = kind.least
        self.assertIsInstance(least, Kind)
        self.assertEqual(least.reached(0), tuple(range(len(least))))
        for one, other in itertools.combinations(range(len(least)), 2):
            self.assertFalse(least.alike(one, other))
        # In breadth-first order the numbers are met one by one.
        met = [0]
        for step in itertools.chain(*least.states):
            if step[2] not in met:
                met.append(step[2])
        self.assertEqual(met, list(range(len(least))))
        self.assertIsNone(kind.difference(least))
        self.assertEqual(least.least, least)

    def test_one_state(self):
        self.assertEqual(Kind(()).least, Kind(()))
        self.assertEqual(Kind((), ()).least, Kind(()))
        self.assertEqual(ring(40).least, Kind((("go", "ok", 0),)))

    def test_alike_states_become_one(self):
        kind = Kind((("a", "x", 1),), (("a", "x", 2),), (("a", "x", 0),))
        self.assertEqual(kind.least.states, ((("a", "x", 0),),))

    def test_states_that_are_not_reached_are_left_out(self):
        kind = Kind((("a", "x", 2),), (("b", "x", 0),), ())
        self.assertEqual(kind.least.states, ((("a", "x", 1),), ()))

    def test_numbers_in_breadth_first_order(self):
        kind = Kind((("a", "x", 3), ("b", "x", 2)), (), (("c", "x", 0),), (("d", "x", 1),))
        wanted = ((("a", "x", 1), ("b", "x", 2)), (("d", "x", 3),), (("c", "x", 0),), ())
        self.assertEqual(kind.least.states, wanted)

    def test_breadth_comes_ahead_of_depth(self):
        kind = Kind((("a", "x", 1), ("b", "x", 3)), (("a", "x", 2),), (("c", "x", 2),), (("d", "x", 3),))
        wanted = ((("a", "x", 1), ("b", "x", 2)), (("a", "x", 3),), (("d", "x", 2),), (("c", "x", 3),))
        self.assertEqual(kind.least.states, wanted)

    def test_the_order_is_that_of_operations_and_then_answers(self):
        kind = Kind((("a", "y", 2), ("b", "x", 1)), (("x", "x", 1),), (("y", "y", 2),))
        self.assertEqual(kind.least.states, ((("a", "y", 1), ("b", "x", 2)), (("y", "y", 1),), (("x", "x", 2),)))

    def test_random_kinds(self):
        for kind in small_kinds(52, 300):
            self.check(kind)

    def test_copies_of_states_in_any_order(self):
        chance = random.Random(53)
        for kind in (account(2, 1), switch(), queue(2, "a", "b"), cell("b", "a", "c"), counter(3)):
            for copies in (1, 2, 3, 4):
                self.assertEqual(shuffled(chance, kind, copies).least, kind)

    def test_equal_exactly_if_the_legal_sequences_are(self):
        kinds = list(small_kinds(54, 40, most=3, share=0.4)) + list(small_kinds(55, 40, most=3, words=("a",), share=0.8))
        words = [legal(kind.states, 0, 6) for kind in kinds]
        for one, other in itertools.combinations(range(len(kinds)), 2):
            self.assertIs(kinds[one].least == kinds[other].least, words[one] == words[other])

    def test_rings(self):
        self.assertEqual(ring(40, 0).least, ring(40, 0))
        self.assertEqual(ring(40, 39).least, ring(40, 39))
        rows = [[("go", "ok", (number + 1) % 40)] for number in range(40)]
        for number in (9, 19, 29, 39):
            rows[number].append(("stop", "ok", number))
        self.assertEqual(len(Kind(*map(tuple, rows)).least), 10)

    def test_a_line_of_forty_states(self):
        rows = [(("go", "ok", number + 1),) for number in range(39)] + [()]
        self.assertEqual(Kind(*rows).least, Kind(*rows))

    def test_forty_states_and_twenty_four_events(self):
        events = [("do", f"a{number:02d}") for number in range(24)]
        rows = [tuple((*event, (number * 7 + at) % 40) for at, event in enumerate(events)) for number in range(40)]
        self.assertEqual(len(Kind(*rows).least), 1)
        rows[39] = rows[39][:-1]
        self.check(Kind(*rows))


class Difference(unittest.TestCase):
    def wanted(self, kind, other, length=7):
        one, two = legal(kind.states, 0, length), legal(other.states, 0, length)
        return min(one ^ two, key=lambda path: (len(path), path), default=None)

    def test_none(self):
        self.assertIsNone(account(2, 1).difference(account(2, 1)))
        self.assertIsNone(Kind(()).difference(Kind((), (("a", "x", 0),))))
        self.assertIsNone(ring(40).difference(ring(39)))
        self.assertIsNone(Kind((("a", "x", 0),)).difference(other=Kind((("a", "x", 1),), (("a", "x", 0),))))

    def test_at_once(self):
        one, other = Kind((("a", "x", 0), ("c", "x", 0))), Kind((("b", "x", 0), ("c", "x", 0)))
        self.assertEqual([one.difference(other), other.difference(one)], [(("a", "x"),), (("a", "x"),)])

    def test_in_either_kind(self):
        one, other = Kind((("a", "x", 0),)), Kind(())
        self.assertEqual([one.difference(other), other.difference(one)], [(("a", "x"),), (("a", "x"),)])

    def test_answers_count(self):
        self.assertEqual(Kind((("a", "y", 0),)).difference(Kind((("a", "x", 0),))), (("a", "x"),))

    def test_the_shortest_ones_come_first(self):
        one = Kind((("a", "x", 1), ("b", "x", 2)), (("a", "x", 3),), (), (("z", "x", 3),))
        other = Kind((("a", "x", 1), ("b", "x", 2)), (("a", "x", 3),), (("c", "x", 2),), ())
        self.assertEqual(one.difference(other), (("b", "x"), ("c", "x")))

    def test_of_the_shortest_ones_the_first(self):
        one = Kind((("a", "x", 1), ("b", "x", 1)), (("c", "x", 1),))
        other = Kind((("a", "x", 1), ("b", "x", 1)), (("d", "x", 1),))
        self.assertEqual(one.difference(other), (("a", "x"), ("c", "x")))
        self.assertEqual(other.difference(one), (("a", "x"), ("c", "x")))

    def test_the_first_path_to_the_same_states_counts(self):
        one = Kind((("a", "x", 2), ("b", "x", 1)), (("a", "a", 3),), (("z", "x", 3),), (("end", "ok", 3),))
        other = Kind((("a", "x", 2), ("b", "x", 1)), (("a", "a", 3),), (("z", "x", 3),), ())
        self.assertEqual(one.difference(other), (("a", "x"), ("z", "x"), ("end", "ok")))

    def test_random_kinds(self):
        kinds = list(small_kinds(56, 50)) + list(small_kinds(57, 30, words=("a",), share=0.7))
        for one, other in itertools.combinations(kinds, 2):
            found = one.difference(other)
            self.assertEqual(found, self.wanted(one, other))
            self.assertEqual(found is None, one.least == other.least)

    def test_rings_that_differ_after_many_steps(self):
        go, stop = ("go", "ok"), ("stop", "ok")
        self.assertEqual(ring(40, 39).difference(ring(40)), (go,) * 39 + (stop,))
        self.assertEqual(ring(40).difference(ring(40, 39)), (go,) * 39 + (stop,))
        self.assertEqual(ring(40, 39).difference(ring(39, 38)), (go,) * 38 + (stop,))
        line = Kind(*[(("go", "ok", number + 1),) for number in range(39)], ())
        self.assertEqual(line.difference(ring(3)), (go,) * 40)

    def test_rings_without_a_common_length(self):
        rows = [[("go", "ok", (number + 1) % 40)] for number in range(40)]
        self.assertIsNone(Kind(*map(tuple, rows)).difference(ring(39)))

    def test_forty_states(self):
        found = account(39, 1).difference(account(38, 1))
        self.assertEqual(found, (("put1", "ok"),) * 38 + (("put1", "full"),))
