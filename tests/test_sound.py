"""Promise [9]: sound histories, and where and how others are not."""

import random
import unittest

import drawn
import plain
from mustwait.builders import account, cell, counter, queue
from mustwait.histories import is_history, log_of
from mustwait.orders import is_fine, is_sound, unsound_at
from values import copied

LETTER, PURSE, LINE = cell("a", "b"), account(2, 1), queue(2, "a", "b")
SHOP = (LETTER, PURSE)
WORDS = "abcdefghij"
TEN = cell(*WORDS)
BEGIN = ("begin",)
DAY = (BEGIN, BEGIN, ("did", 0, 0, "setb", "ok"), ("did", 1, 0, "read", "a"), ("did", 1, 1, "put1", "ok"))


def plain_unsound(system, history):
    for index in range(len(history)):
        found = plain.unfit(system, log_of(system, history[:index + 1]))
        if found:
            return (index, found[0])
    return None


def greedy(random, system, things, most):
    """A sound history of drawn things, with so many entries at a time; those that are not open abort."""
    history = ()
    running = []
    begun = 0
    while len(history) < things:
        if not running or len(running) < most and random.random() < 0.3:
            history += (BEGIN,)
            running.append(begun)
            begun += 1
        elif len(running) == most and random.random() < 0.1:
            history += (("abort", running.pop(random.randrange(most))),)
        else:
            longer = history + (("did", random.choice(running)) + drawn.event(random, system),)
            if is_fine(system, log_of(system, longer)):
                history = longer
            elif random.random() < 0.05:
                history += (("abort", running.pop(random.randrange(len(running)))),)
    return history


class Sound(unittest.TestCase):
    def check(self, wanted, *things, system=SHOP):
        self.assertIs(is_history(system, things), True)
        self.assertEqual(unsound_at(system, things), wanted)
        self.assertIs(is_sound(system, things), wanted is None)

    def test_ordinary(self):
        self.check(None)
        self.check(None, *DAY)
        self.check(None, *DAY, ("did", 0, 0, "read", "b"), ("commit", 0), BEGIN, ("did", 2, 0, "seta", "ok"))
        self.check((5, (0, 1)), *DAY, ("did", 0, 1, "take1", "no"))
        self.check((5, (0,)), *DAY, ("did", 0, 1, "take1", "ok"))

    def test_what_is_wrong_alone(self):
        self.check((1, (0,)), BEGIN, ("did", 0, 1, "take1", "ok"))
        self.check((2, (0,)), BEGIN, ("did", 0, 0, "setb", "ok"), ("did", 0, 0, "read", "a"))

    def test_the_first_outcome(self):
        # There is no order just where the two last ones commit.
        things = (BEGIN, BEGIN, BEGIN, ("did", 1, 1, "put1", "ok"), ("did", 2, 1, "take1", "no"), ("did", 2, 0, "setb", "ok"))
        self.check(None, *things)
        self.check((6, (0, 1, 2)), *things, ("did", 1, 0, "read", "a"))
        self.check((7, (1, 2)), *things, ("abort", 0), ("did", 1, 0, "read", "a"))
        self.check((7, (1, 2)), *things, ("commit", 0), ("did", 1, 0, "read", "a"))
        self.check((7, (0, 2)), *things, ("commit", 1), ("did", 2, 0, "read", "a"))

    def test_committed_ones(self):
        self.check((3, (1,)), BEGIN, BEGIN, ("commit", 0), ("did", 1, 0, "read", "b"))
        things = (BEGIN, ("did", 0, 0, "setb", "ok"), ("commit", 0), BEGIN)
        self.check((4, (1,)), *things, ("did", 1, 0, "read", "a"))
        self.check(None, *things, ("did", 1, 0, "read", "b"))

    def test_the_outcome_of_none(self):
        # An answer of a committed one that broke it is told with what was open when it came.
        self.check((1, (0,)), BEGIN, ("did", 0, 0, "read", "b"), ("commit", 0))

    def test_things_behind_what_broke_it(self):
        broken = (BEGIN, BEGIN, ("did", 0, 0, "setb", "ok"), ("did", 1, 0, "read", "b"))
        self.check((3, (1,)), *broken)
        self.check((3, (1,)), *broken, ("abort", 1))
        self.check((3, (1,)), *broken, ("commit", 0), ("commit", 1))
        self.check((3, (1,)), *broken, ("abort", 1), BEGIN, ("did", 2, 0, "read", "b"), ("did", 0, 1, "take1", "ok"))
        self.assertTrue(is_fine(SHOP, log_of(SHOP, broken + (("abort", 1),))))

    def test_what_an_abort_or_a_commit_leaves(self):
        things = (BEGIN, BEGIN, ("did", 0, 1, "put1", "ok"))
        self.check((3, (1,)), *things, ("did", 1, 1, "take1", "ok"))
        self.check((4, (1,)), *things, ("abort", 0), ("did", 1, 1, "take1", "ok"))
        self.check(None, *things, ("commit", 0), ("did", 1, 1, "take1", "ok"))

    def test_ten_open(self):
        things = (BEGIN,) * 10 + tuple(("did", number, 0, "set" + WORDS[number], "ok") for number in range(10))
        self.check(None, *things, system=(TEN,))
        self.check(None, *things, *[("did", n, 0, "read", WORDS[n]) for n in range(10)], system=(TEN,))
        self.check((20, (0, 1, 2, 3, 4)), *things, ("did", 4, 0, "read", "j"), system=(TEN,))
        self.check((20, tuple(range(10))), *things, ("did", 9, 0, "read", "a"), system=(TEN,))
        self.check((21, tuple(range(9))), *things, ("abort", 9), ("did", 8, 0, "read", "a"), system=(TEN,))

    def test_the_outcome_of_all_ten(self):
        things = [BEGIN] * 10
        things += [("did", number, 0, "add", "ok") for number in range(9)]
        self.check(None, *things, system=(counter(9),))
        self.check(None, *things, ("did", 9, 0, "add", "ok"), system=(counter(10),))
        self.check((19, tuple(range(10))), *things, ("did", 9, 0, "add", "ok"), system=(counter(9),))

    def test_drawn(self):
        source = random.Random(91)
        found = {True: 0, False: 0}
        for _ in range(500):
            system = drawn.system(source, 3)
            history = drawn.history(source, system, source.randrange(16), 4)
            before = copied(history)
            wanted = plain_unsound(system, history)
            self.check(wanted, *history, system=system)
            self.assertEqual(history, before)
            found[wanted is None] += 1
        self.assertGreater(min(found.values()), 50)

    def test_drawn_ones_that_go_on(self):
        source = random.Random(92)
        for _ in range(60):
            system = drawn.system(source, 2)
            history = greedy(source, system, 20, 4)
            self.check(None, *history, system=system)
            self.assertIsNone(plain_unsound(system, history))
            longer = history
            while plain_unsound(system, longer) is None and len(longer) < 30:
                number = next(n for n in range(longer.count(BEGIN)) if is_history(system, longer + (("commit", n),)))
                longer += (("did", number) + drawn.event(source, system),)
            self.check(plain_unsound(system, longer), *longer, system=system)

    def test_two_hundred_things(self):
        system = (cell("a", "b"), account(3, 1, 2), queue(2, "a", "b"), counter(3))
        things = [BEGIN] * 10
        for number in range(10, 38):
            things += [("did", number - 10, 0, "setb", "ok"), ("did", number - 1, 1, "take2", "no")]
            things += [("did", number - 5, 3, "read", "0"), ("did", number - 10, 0, "read", "b")]
            things += [("abort", number - 10), BEGIN]
        things += [("did", number, 0, "seta", "ok") for number in range(28, 38)]
        things += [("did", number, 0, "read", "a") for number in range(28, 38)]
        things += [("did", 30, 0, "seta", "ok"), ("did", 30, 0, "read", "a")]
        self.assertEqual(len(things), 200)
        self.assertIs(is_sound(system, tuple(things)), True)
        self.check((199, tuple(range(28, 38))), *things[:199], ("did", 37, 0, "read", "b"), system=system)
        broken = (*things[:190], ("did", 29, 0, "read", "b"), *things[191:])
        self.assertEqual(unsound_at(system, broken), (190, (28, 29)))

    def test_two_hundred_things_of_ten(self):
        answers = [("did", number, 0, "set" + WORDS[(number + at) % 10], "ok") for at in range(12) for number in range(10)]
        history = (BEGIN,) * 10 + tuple(answers)
        self.check(None, *history, system=(TEN, TEN))
        longer = history + tuple(("abort", n) for n in range(9)) + (BEGIN,) * 9
        longer += tuple(("did", n, 1, "set" + WORDS[n - 10], "ok") for n in range(10, 19))
        self.check(None, *longer, system=(TEN, TEN))
        self.check((157, (9, 10)), *longer, ("did", 10, 1, "read", "b"), system=(TEN, TEN))

    def test_by_name(self):
        self.assertIs(is_sound(history=DAY, system=SHOP), True)
        self.assertIsNone(unsound_at(history=DAY, system=SHOP))
