"""Promises [20] and [21]: the things of an object that decides alone, sound alone, what an outcome reaches."""

import random
import unittest

import drawn
import plain_alone
from mustwait.alone import is_sound_alone, is_things, reaches
from mustwait.builders import account, cell, counter, permits, pool, queue, switch, tickets
from mustwait.kinds import Kind
from values import ANY_VALUES, changed, copied

LINE, PURSE = queue(2, "a", "b"), account(2, 1)


def did(number, operation, answer="ok"):
    return ("did", number, operation, answer)


class Things(unittest.TestCase):
    GOOD = (
        (),
        (did(0, "puta"),),
        (did(0, "puta"), did(10 ** 30, "putb"), did(0, "take", "b"), ("commit", 0), ("abort", 10 ** 30)),
        (("commit", 5), ("abort", 3)),
        (("commit", 10 ** 39), did(1, "take", "a"), ("abort", 1)),
        (did(7, "take", "b"), did(7, "take", "b"), did(6, "take", "a")),
    )
    BAD = (
        (did(0, "puta", "a"),), (did(0, "take", "ok"),), (did(0, "look", "off"),), (did(0, "take", "c"),),
        (did(-1, "puta"),), (did(True, "puta"),), (did(False, "puta"),), (did(None, "puta"),), (did("0", "puta"),),
        (did((0,), "puta"),), (did([0], "puta"),), (did(0, ["puta"]),), (did(0, "puta", ["ok"]),), (did(0, {}, {}),),
        (["did", 0, "puta", "ok"],), [did(0, "puta")], (("did", 0, "puta"),), (("did", 0, "puta", "ok", "ok"),),
        (("did", 0, 0, "puta", "ok"),), (("did",),), (("commit",),), (("commit", 0, 0),), (("commit", -1),),
        (("commit", True),), (("abort", False),), (("commit", "0"),), (("commit", None),), (["commit", 0],),
        (("commit", [0]),), (("abort", {}),), (("commit", (0,)),), (("begin",),), (("begin", 0),), (("drop", 0),),
        (("did", 0),), (("commit", 0, "puta", "ok"),), ((),), ("commit",), (0,), (None,), (("Commit", 0),),
        (("commit", 0), ("commit", 0)), (("abort", 0), ("abort", 0)), (("commit", 0), ("abort", 0)),
        (("abort", 0), ("commit", 0)), (("commit", 0), did(0, "puta")), (("abort", 0), did(0, "puta")),
        (did(0, "puta"), ("commit", 0), did(0, "puta")), (did(0, "puta"), ("abort", 0), did(1, "puta"), ("commit", 0)),
        (did(0, "puta"), ("commit", 10 ** 30), ("abort", 10 ** 30)), (did(0, "puta"), ()), (did(0, "puta"), "commit"),
    )

    def test_good_ones(self):
        for things in self.GOOD:
            self.assertIs(is_things(LINE, things), True, things)

    def test_bad_ones(self):
        for things in self.BAD:
            self.assertIs(is_things(LINE, things), False, things)

    def test_values_of_all_kinds(self):
        for thing in ANY_VALUES:
            for kind in (LINE, Kind(())):
                self.assertIs(is_things(kind, thing), plain_alone.is_things(kind, thing))
                self.assertIs(is_things(kind, (thing,)), False)

    def test_no_events(self):
        self.assertIs(is_things(Kind(()), (("commit", 0),)), True)
        self.assertIs(is_things(Kind(()), (did(0, "puta"),)), False)

    def test_changed_ones(self):
        source = random.Random(1)
        found = {True: 0, False: 0}
        for _ in range(4000):
            kind = drawn.kind_with_events(source)
            things = source.choice([drawn.some_things(source, kind, source.randrange(8), share_sound=0)])
            for _ in range(source.randrange(3)):
                things = changed(source, things)
            before = copied(things)
            told = is_things(kind, things)
            self.assertIs(told, plain_alone.is_things(kind, things), things)
            self.assertEqual(things, before)
            found[told] += 1
        self.assertGreater(min(found.values()), 500)

    def test_long_ones(self):
        things = tuple(did(number, "puta") for number in range(4000)) + tuple(("commit", at) for at in range(4000))
        self.assertIs(is_things(LINE, things), True)
        self.assertIs(is_things(LINE, things + (("commit", 3999),)), False)

    def test_by_name(self):
        self.assertIs(is_things(kind=LINE, thing=()), True)


class Sound(unittest.TestCase):
    def test_no_things(self):
        self.assertIs(is_sound_alone(LINE, ()), True)
        self.assertEqual(reaches(LINE, (), ()), (0,))

    def test_the_example(self):
        both = (did(0, "puta"), did(1, "putb"))
        self.assertEqual([reaches(LINE, both, outcome) for outcome in ((), (0,), (1,), (0, 1))], [(0,), (1,), (2,), (4, 5)])
        self.assertIs(is_sound_alone(LINE, both), True)

    def test_one_order_is_not_enough(self):
        self.assertIs(is_sound_alone(LINE, (did(0, "puta"), did(1, "take", "a"))), False)
        self.assertIs(is_sound_alone(LINE, (did(0, "puta"), ("commit", 0), did(1, "take", "a"))), True)

    def test_each_prefix_counts(self):
        # In the end all orders are legal, but there was a time when they were not.
        things = (did(0, "puta"), did(1, "take", "a"), ("commit", 0), ("abort", 1))
        self.assertIs(is_sound_alone(LINE, things), False)

    def test_aborted_ones_do_not_count(self):
        things = (did(0, "puta"), did(1, "puta"), ("abort", 0), did(2, "putb"))
        self.assertIs(is_sound_alone(LINE, things), True)
        self.assertEqual(reaches(LINE, things, (1, 2)), (4, 5))
        self.assertEqual(reaches(PURSE, (did(0, "put1"), ("abort", 0)), ()), (0,))

    def test_those_without_answers_do_not_count(self):
        things = (("commit", 3), did(0, "puta"), ("abort", 1), ("commit", 0), ("commit", 2), did(4, "take", "a"))
        self.assertIs(is_sound_alone(LINE, things), True)
        self.assertEqual([reaches(LINE, things, outcome) for outcome in ((), (4,))], [(1,), (0,)])

    def test_before_counts_from_any_answer(self):
        # 1 got its first answer ahead of the commit of 0, but its second one behind it.
        letter = cell("a", "b")
        things = (did(0, "setb"), did(1, "setb"), ("commit", 0), did(1, "seta"))
        self.assertIs(is_sound_alone(letter, things), True)
        self.assertEqual(reaches(letter, things, (1,)), (0,))
        apart = (did(0, "setb"), did(1, "setb"), did(1, "seta"), ("commit", 0))
        self.assertEqual(reaches(letter, apart, (1,)), (0, 1))

    def test_chains(self):
        # 0 is before 1, and 1 before 2, but 3 got its answer ahead of all commits.
        letter = cell("a", "b", "c")
        things = (did(3, "setc"), did(0, "seta"), ("commit", 0), did(1, "setb"), ("commit", 1), did(2, "seta"))
        self.assertEqual(reaches(letter, things, (2, 3)), (0, 2))
        self.assertEqual(reaches(letter, things, (3,)), (1, 2))
        self.assertEqual(reaches(letter, things, ()), (1,))

    def test_by_name(self):
        self.assertIs(is_sound_alone(kind=LINE, things=()), True)
        self.assertEqual(reaches(kind=LINE, things=(), outcome=()), (0,))

    def test_drawn_things(self):
        source = random.Random(2)
        found = {True: 0, False: 0}
        for _ in range(700):
            kind = drawn.kind_with_events(source)
            things = drawn.some_things(source, kind, source.randrange(12), source.choice([2, 3, 4]))
            told = is_sound_alone(kind, things)
            self.assertIs(told, plain_alone.is_sound(kind, things), (kind.text, things))
            found[told] += 1
            if told:
                for outcome in plain_alone.outcomes(things):
                    self.assertEqual(reaches(kind, things, outcome), plain_alone.reaches(kind, things, outcome))
        self.assertGreater(min(found.values()), 100)


class Many(unittest.TestCase):
    def test_eight_that_are_not_settled(self):
        source = random.Random(3)
        for kind in (account(6, 1), pool(3, "a", "b"), cell("a", "b", "c")):
            things = ()
            numbers = list(range(8))
            while len(things) < 14:
                number = source.choice(numbers)
                longer = things + (did(number, *source.choice(kind.events)),)
                if is_sound_alone(kind, longer):
                    things = longer
                if source.random() < 0.3 and len(numbers) > 4 and ("commit", number) not in things:
                    things = things + (("commit", number),)
                    numbers.remove(number)
            self.assertIs(plain_alone.is_sound_now(kind, things), True)
            outcome = tuple(plain_alone.running(things))
            self.assertEqual(reaches(kind, things, outcome), plain_alone.reaches(kind, things, outcome))
            self.assertEqual(reaches(kind, things, outcome[1:]), plain_alone.reaches(kind, things, outcome[1:]))

    def test_many_that_are_settled(self):
        things = ()
        for number in range(66):
            things += (did(number, "put1" if number % 2 == 0 else "take1"), ("commit", number), ("abort", number + 100))
        self.assertEqual(len(things), 198)
        self.assertIs(is_sound_alone(PURSE, things), True)
        self.assertEqual(reaches(PURSE, things, ()), (0,))
        self.assertIs(is_sound_alone(PURSE, things + (did(200, "take1", "no"),)), True)
        self.assertIs(is_sound_alone(PURSE, things + (did(200, "take1"),)), False)

    def test_settled_ones_beneath_eight_open_ones(self):
        line = tickets(20)
        things = tuple(
            thing for number in range(20) for thing in (did(number, "next", str(number + 1)), ("commit", number))
        )
        self.assertIs(is_sound_alone(line, things), True)
        self.assertEqual(reaches(line, things, ()), (20,))
        bank = account(8, 1)
        many = tuple(did(8 * at + number, "put1") for at in range(1) for number in range(8))
        self.assertIs(is_sound_alone(bank, many), True)
        self.assertIs(is_sound_alone(bank, many + (did(0, "put1"),)), False)
        self.assertEqual(reaches(bank, many, tuple(range(8))), (8,))

    def test_two_hundred_things_of_eight(self):
        # Eight open ones come and go, and each answer is looked at in all their orders.
        bank, source = account(38, 1), random.Random(4)
        things, running, begun = [did(0, "put1")] * 15 + [("commit", 0)], [], 1
        while len(things) < 200:
            if len(running) < 8:
                running.append(begun)
                begun += 1
            number = source.choice(running)
            if source.random() < 0.1:
                # All end together, so that what stands beneath is settled.
                things += [(source.choice(["commit", "abort"]), one) for one in running]
                running = []
            else:
                things.append(did(number, "put1" if things.count(did(number, "put1")) == 0 else "take1"))
        self.assertIs(is_sound_alone(bank, tuple(things[:200])), True)
        switchboard = (did(0, "look", "off"),) * 150 + tuple(did(at, "look", "off") for at in range(8))
        self.assertIs(is_sound_alone(switch(), switchboard), True)
        self.assertEqual(reaches(switch(), switchboard, (0, 7)), (0,))
        self.assertIs(is_sound_alone(permits(2), (did(0, "get"), did(1, "get"), did(2, "get"))), False)
        self.assertIs(is_sound_alone(counter(9), (did(0, "add"), did(1, "sub"))), False)


if __name__ == "__main__":
    unittest.main()
