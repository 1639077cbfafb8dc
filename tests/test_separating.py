"""Promise [29], the interface: the shortest histories that one control lets and another one does not."""

import random
import unittest

import plain_controls
from mustwait.builders import account, cell, permits, pool, queue, switch, tickets
from mustwait.controls import CONTROLS, held_back, separating
from mustwait.histories import is_history
from mustwait.kinds import Kind
from values import random_states

LETTER, LINE, PURSE = cell("a", "b"), queue(2, "a", "b"), account(2, 1)
PAIRS = [(one, other) for one in CONTROLS for other in CONTROLS]


class Separating(unittest.TestCase):
    def check(self, kind, one, other, length):
        """Whether a history is as it should be, apart from being among the shortest ones."""
        told = separating(kind, one, other, length)
        if told is not None:
            self.assertTrue(is_history((kind,), told))
            self.assertLessEqual(len(told), length)
            self.assertLessEqual(told.count(("begin",)), 3)
            self.assertIsNone(plain_controls.held_back(one, (kind,), told), (one, other, told))
            self.assertIsNotNone(plain_controls.held_back(other, (kind,), told), (one, other, told))
        return told

    def test_a_cell(self):
        told = self.check(LETTER, "stamps", "cube", 6)
        self.assertEqual(len(told), 4)
        self.assertEqual(len(self.check(LETTER, "aside", "in place", 6)), 4)
        self.assertEqual(len(self.check(LETTER, "cube", "stamps", 6)), 5)

    def test_the_length(self):
        for length in range(7):
            told = self.check(LETTER, "orders", "cube", length)
            self.assertEqual(told is None, length < 4)
            told = self.check(queue(2, "a"), "orders", "cube", length)
            self.assertEqual(told is None, length < 6)
            told = self.check(PURSE, "cube", "in place", length)
            self.assertEqual(told is None, length < 5)

    def test_twice_the_same(self):
        for control in CONTROLS:
            for kind in (LETTER, PURSE, LINE):
                self.assertIsNone(separating(kind, control, control, 6))

    def test_one_within_another(self):
        for kind in (LETTER, LINE, PURSE, switch(), permits(2), pool(2, "a", "b")):
            self.assertIsNone(separating(kind, "aside", "cube", 6))
            for control in CONTROLS:
                self.assertIsNone(separating(kind, control, "orders", 6))

    def test_no_events(self):
        for one, other in PAIRS:
            self.assertIsNone(separating(Kind(()), one, other, 6))

    def test_tickets_tell_nothing_apart(self):
        for one, other in PAIRS:
            self.assertIsNone(separating(tickets(3), one, other, 6))

    def test_all_pairs_by_a_plain_look(self):
        # Whatever is told to be the shortest has the length of the shortest of all histories.
        source = random.Random(1)
        kinds = [LETTER, account(1, 1), queue(1, "a"), switch(), permits(1), permits(2)]
        while len(kinds) < 16:
            words = source.sample("abc", source.randrange(1, 3))
            kind = Kind.of(random_states(source, source.randrange(1, 5), words, source.choice([0.4, 0.6, 0.9])))
            if 0 < len(kind.events) <= 3:
                kinds.append(kind)
        found = 0
        for kind in kinds:
            for one, other in source.sample(PAIRS, 12):
                told = self.check(kind, one, other, 4)
                shortest = plain_controls.separating(kind, one, other, 4)
                self.assertEqual(None if told is None else len(told), shortest, (kind.text, one, other))
                found += told is not None
        self.assertGreater(found, 10)

    def test_five_things_by_a_plain_look(self):
        source = random.Random(2)
        for _ in range(6):
            kind = Kind(*[
                tuple(event + (source.randrange(3),) for event in (("a", "x"), ("b", "x")) if source.random() < 0.8)
                for _ in range(3)
            ])
            one, other = source.choice(PAIRS)
            told = self.check(kind, one, other, 5)
            shortest = plain_controls.separating(kind, one, other, 5)
            self.assertEqual(None if told is None else len(told), shortest, (kind.text, one, other))

    def test_one_event_and_six_things_by_a_plain_look(self):
        kinds = (Kind((("a", "x", 1),), ()), Kind((("a", "x", 1),), (("a", "x", 0),)), Kind((("a", "x", 0),)))
        for kind in kinds:
            for one, other in (("orders", "in place"), ("cube", "aside"), ("stamps", "cube")):
                told = self.check(kind, one, other, 6)
                shortest = plain_controls.separating(kind, one, other, 6)
                self.assertEqual(None if told is None else len(told), shortest)

    def test_six_states_and_six_events(self):
        source = random.Random(3)
        events = [("a", "x"), ("a", "y"), ("b", "x"), ("b", "y"), ("c", "x"), ("c", "y")]
        turns = {event: source.randrange(6) for event in events}
        kinds = [
            Kind(*[tuple(event + (source.randrange(6),) for event in events) for _ in range(6)]),
            Kind(*[tuple(event + ((state + turns[event]) // 6,) for event in events) for state in range(6)]),
            Kind(*[tuple(event + (source.randrange(6),) for event in events if source.random() < 0.7) for _ in range(6)]),
        ]
        for kind in kinds:
            for one, other in source.sample(PAIRS, 6):
                self.check(kind, one, other, 6)

    def test_by_name(self):
        self.assertIsNone(separating(kind=LETTER, one="aside", other="cube", length=3))
        told = separating(LETTER, "orders", "cube", 4)
        self.assertIsNone(held_back("orders", (LETTER,), told))
        self.assertEqual(held_back("cube", (LETTER,), told), 3)


if __name__ == "__main__":
    unittest.main()
