"""Promise [4]: answers, legal sequences and reached states."""

import random
import unittest

from mustwait.builders import account, pool, switch
from mustwait.kinds import Kind
from values import random_states

RING = Kind(*[(("go", "ok", (number + 1) % 40),) for number in range(40)])
LOOPS = Kind((("stay", "ok", 0), ("step", "ok", 1)), (("stay", "ok", 1),), (("back", "ok", 0), ("on", "ok", 3)), ())


class Answers(unittest.TestCase):
    def test_ordinary(self):
        self.assertEqual(account(2, 1).answers(1, "put1"), ("ok",))
        self.assertEqual(account(2, 1).answers(2, "put1"), ("full",))

    def test_several(self):
        kind = Kind((("take", "10", 0), ("take", "9", 0), ("take", "a", 0), ("took", "z", 0)))
        self.assertEqual(kind.answers(0, "take"), ("10", "9", "a"))
        self.assertEqual(pool(2, "b", "a").answers(4, "take"), ("a", "b"))

    def test_none(self):
        self.assertEqual(LOOPS.answers(1, "step"), ())
        self.assertEqual(LOOPS.answers(3, "stay"), ())

    def test_words_that_are_no_operation(self):
        for word in ("other", "ok", "st", "stayy", "0", "z" * 12):
            self.assertEqual(LOOPS.answers(0, word), ())

    def test_at_a_state_that_is_not_reached(self):
        self.assertEqual(LOOPS.answers(2, "back"), ("ok",))

    def test_by_name(self):
        self.assertEqual(LOOPS.answers(operation="stay", state=1), ("ok",))


class Led(unittest.TestCase):
    def test_no_events(self):
        self.assertEqual([LOOPS.led(state) for state in range(4)], [0, 1, 2, 3])

    def test_legal(self):
        self.assertEqual(LOOPS.led(0, ("stay", "ok"), ("step", "ok"), ("stay", "ok")), 1)
        self.assertEqual(LOOPS.led(2, ("back", "ok"), ("step", "ok")), 1)

    def test_not_legal(self):
        self.assertIsNone(LOOPS.led(0, ("back", "ok")))
        self.assertIsNone(LOOPS.led(0, ("step", "ok"), ("step", "ok")))
        self.assertIsNone(LOOPS.led(0, ("step", "ok"), ("step", "ok"), ("stay", "ok")))
        self.assertIsNone(LOOPS.led(3, ("stay", "ok")))

    def test_pairs_that_are_no_events(self):
        self.assertIsNone(LOOPS.led(0, ("stay", "no")))
        self.assertIsNone(LOOPS.led(0, ("other", "ok")))
        self.assertIsNone(LOOPS.led(0, ("ok", "stay")))
        self.assertIsNone(LOOPS.led(0, ("stay", "ok"), ("other", "ok")))

    def test_an_event_that_leads_to_its_own_state(self):
        self.assertEqual(LOOPS.led(0, *[("stay", "ok")] * 500), 0)

    def test_a_ring(self):
        for steps in (0, 1, 39, 40, 41, 200):
            self.assertEqual(RING.led(0, *[("go", "ok")] * steps), steps % 40)

    def test_several_answers_lead_to_several_states(self):
        kind = Kind((("take", "a", 1), ("take", "b", 2)), (), ())
        self.assertEqual([kind.led(0, ("take", "a")), kind.led(0, ("take", "b"))], [1, 2])


class Reached(unittest.TestCase):
    def test_no_state_passed(self):
        self.assertEqual(LOOPS.reached(), ())
        self.assertEqual(RING.reached(), ())

    def test_one(self):
        self.assertEqual(LOOPS.reached(0), (0, 1))
        self.assertEqual(LOOPS.reached(1), (1,))
        self.assertEqual(LOOPS.reached(2), (0, 1, 2, 3))
        self.assertEqual(LOOPS.reached(3), (3,))

    def test_several(self):
        self.assertEqual(LOOPS.reached(3, 1), (1, 3))
        self.assertEqual(LOOPS.reached(3, 0), (0, 1, 3))
        self.assertEqual(LOOPS.reached(1, 1, 1), (1,))

    def test_a_ring(self):
        for state in (0, 7, 39):
            self.assertEqual(RING.reached(state), tuple(range(40)))

    def test_against_sequences(self):
        chance = random.Random(41)
        for _ in range(200):
            kind = Kind(*random_states(chance, chance.randrange(1, 6), ("a", "b"), 0.2))
            for start in range(len(kind)):
                found = {start}
                for _ in range(len(kind)):
                    found |= {step[2] for state in found for step in kind.states[state]}
                self.assertEqual(kind.reached(start), tuple(sorted(found)))

    def test_kinds(self):
        self.assertEqual(switch().reached(1), (1,))
        self.assertEqual(account(2, 1).reached(2), (0, 1, 2))
