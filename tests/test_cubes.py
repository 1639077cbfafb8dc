"""Promise [23]: the answers that the cube gives."""

import random
import unittest

import drawn
import plain_alone
import plain_joint
from mustwait.alone import cube_answers, reaches
from mustwait.builders import account, cell, pool, queue, stack, tickets
from mustwait.errors import TooMany
from mustwait.kinds import Kind

LINE, PURSE = queue(2, "a", "b"), account(2, 1)


def did(number, operation, answer="ok"):
    return ("did", number, operation, answer)


def given_things(random_source, kind, many, most=3):
    """Things all of whose answers the cube gives, by a plain look."""
    things, numbers = (), [0, 1, 2, 3, 4, 8]
    for _ in range(many):
        number = random_source.choice(numbers)
        if len(numbers) > 1 and random_source.random() < 0.25:
            things += ((random_source.choice(["commit", "commit", "abort"]), number),)
            numbers.remove(number)
        elif len(set(plain_alone.kept(things)) | {number}) <= most:
            operation = random_source.choice(kind.operations)
            answers = plain_alone.cube_answers(kind, things, number, operation)
            if answers:
                things += (did(number, operation, random_source.choice(answers)),)
    return things, numbers


class Answers(unittest.TestCase):
    def test_no_things(self):
        self.assertEqual(cube_answers(LINE, (), 0, "puta"), ("ok",))
        self.assertEqual(cube_answers(LINE, (), 10 ** 30, "take"), ())
        self.assertEqual(cube_answers(PURSE, (), 3, "take1"), ("no",))

    def test_sound_alone_but_not_joint(self):
        # Both orders of the two are legal, but behind them a taker would find nothing that is right in both.
        self.assertEqual(cube_answers(LINE, (did(0, "puta"),), 1, "putb"), ())
        self.assertEqual(cube_answers(LINE, (did(0, "puta"),), 1, "puta"), ("ok",))
        self.assertEqual(cube_answers(LINE, (did(0, "puta"), ("commit", 0)), 1, "putb"), ("ok",))

    def test_the_outcome_that_is_not_joint_may_be_any(self):
        # What all three of them reach is one set, that of the first two another one.
        bag = pool(3, "a", "b")
        self.assertEqual(cube_answers(bag, (did(0, "puta"), did(1, "puta")), 2, "putb"), ("ok",))
        line = queue(3, "a", "b")
        self.assertEqual(cube_answers(line, (did(0, "puta"), did(1, "puta")), 2, "putb"), ())

    def test_several_answers(self):
        bag = pool(2, "a", "b")
        things = (did(0, "puta"), did(0, "putb"), ("commit", 0))
        self.assertEqual(cube_answers(bag, things, 1, "take"), ("a", "b"))
        self.assertEqual(cube_answers(bag, things + (did(1, "take", "a"),), 2, "take"), ("b",))
        self.assertEqual(cube_answers(bag, things + (did(1, "take", "a"), did(2, "take", "b")), 1, "take"), ())

    def test_answers_at_states_that_are_not_reached(self):
        kind = Kind((("go", "a", 0),), (("go", "b", 1), ("stay", "c", 0)))
        self.assertEqual([cube_answers(kind, (), 0, operation) for operation in ("go", "stay")], [("a",), ()])

    def test_the_numbers(self):
        things = (did(0, "put1"), ("commit", 5), ("abort", 6), did(7, "put1"), ("abort", 7))
        for number in (0, 1, 10 ** 39):
            self.assertEqual(cube_answers(PURSE, things, number, "put1"), ("ok",))
        self.assertEqual([cube_answers(PURSE, things, number, "take1") for number in (0, 1)], [("ok",), ()])

    def test_by_name_and_position(self):
        self.assertEqual(cube_answers(kind=LINE, things=(), number=0, operation="puta", most=5000), ("ok",))

    def test_the_things_stay_as_they_were(self):
        things = (did(0, "puta"), ("commit", 0))
        cube_answers(LINE, things, 1, "putb")
        self.assertEqual(things, (did(0, "puta"), ("commit", 0)))

    def test_drawn_things(self):
        source = random.Random(1)
        found = {}
        refused = 0
        for _ in range(500):
            kind = drawn.kind_with_events(source)
            things, numbers = given_things(source, kind, source.randrange(10))
            for operation in kind.operations:
                number = source.choice(numbers + [77])
                told = cube_answers(kind, things, number, operation)
                self.assertEqual(told, plain_alone.cube_answers(kind, things, number, operation), (kind.text, things))
                found[len(told)] = found.get(len(told), 0) + 1
                sound = [
                    answer for answer in plain_alone.possible(kind, operation)
                    if plain_alone.is_sound_now(kind, things + (did(number, operation, answer),))
                ]
                refused += len(sound) > len(told)
        self.assertGreater(min(found[0], found[1]), 100)
        self.assertGreater(found[2], 10)
        self.assertGreater(refused, 5)

    def test_all_families(self):
        # What is held back although it is sound alone reaches a set that is in no joint family at all.
        source = random.Random(2)
        for _ in range(100):
            kind = drawn.kind_with_events(source)
            if len(kind) > 5:
                continue
            family = plain_joint.joint_sets(kind)
            things, numbers = given_things(source, kind, source.randrange(8))
            for operation in kind.operations:
                wanted = []
                for answer in plain_alone.possible(kind, operation):
                    longer = things + (did(numbers[0], operation, answer),)
                    if plain_alone.is_sound_now(kind, longer):
                        sets = [plain_alone.reaches(kind, longer, one) for one in plain_alone.outcomes(longer)]
                        wanted += [answer] * all(one in family for one in sets)
                self.assertEqual(cube_answers(kind, things, numbers[0], operation), tuple(wanted))

    def test_whoever_is_alone_gets_what_all_states_answer(self):
        source = random.Random(3)
        asked = 0
        for _ in range(300):
            kind = drawn.kind_with_events(source)
            things, numbers = given_things(source, kind, 8)
            things += tuple(("commit", number) for number in plain_alone.running(things))
            for _ in range(3):
                outcome = tuple(plain_alone.running(things))
                states = reaches(kind, things, outcome)
                shared = plain_joint.answered(kind, states)
                if not shared:
                    break
                operation = source.choice(shared)
                told = cube_answers(kind, things, 99, operation)
                self.assertNotEqual(told, (), (kind.text, things, operation))
                things += (did(99, operation, source.choice(told)),)
                asked += 1
        self.assertGreater(asked, 500)


class Limits(unittest.TestCase):
    def check(self, kind, things, number, operation, most):
        """Whether TooMany comes below a number, and not at it."""
        wanted = plain_alone.cube_answers(kind, things, number, operation)
        self.assertEqual(cube_answers(kind, things, number, operation, most=most), wanted)
        if most > 1:
            with self.assertRaises(TooMany) as caught:
                cube_answers(kind, things, number, operation, most=most - 1)
            self.assertEqual(caught.exception.most, most - 1)

    def test_a_cell(self):
        # One set for each word.
        self.check(cell("a", "b", "c"), (), 0, "seta", 3)
        self.check(cell("a", "b", "c", "d"), (), 0, "read", 4)

    def test_what_is_not_sound_alone_is_not_looked_at(self):
        self.assertEqual(cube_answers(tickets(9), (did(0, "next", "1"),), 1, "next", most=1), ())
        with self.assertRaises(TooMany):
            cube_answers(tickets(9), (), 0, "next", most=1)

    def test_each_outcome_counts(self):
        # The sets that come of the outcomes are not of one size: the greatest number decides.
        line = stack(2, "a", "b")
        things = (did(0, "puta"),)
        self.check(line, things, 0, "putb", plain_alone.most_sets(line, things, 0, "putb"))

    def test_an_answer_that_is_refused_counts(self):
        # The first answer leads to a set that is not joint, the second one to a set of which many come.
        rows = [
            (("go", "a", 1), ("go", "b", 2)),
            (("x", "1", 3),), (("y", "1", 3),),
        ]
        rows += [(("z", "1", 3 + (at + 1) - 3),) for at in range(3, 8)] + [()]
        kind = Kind(*[tuple(row) for row in rows])
        self.check(kind, (), 0, "go", plain_alone.most_sets(kind, (), 0, "go"))

    def test_drawn_things(self):
        source = random.Random(4)
        raised = 0
        for _ in range(400):
            kind = drawn.kind_with_events(source)
            things, numbers = given_things(source, kind, source.randrange(7))
            number, operation = source.choice(numbers + [77]), source.choice(kind.operations)
            most = plain_alone.most_sets(kind, things, number, operation)
            if most > 0:
                self.check(kind, things, number, operation, most)
                raised += most > 1
            else:
                self.assertEqual(cube_answers(kind, things, number, operation, most=1), ())
        self.assertGreater(raised, 100)

    def test_hundreds_of_sets(self):
        # Two orders lead to two rings of states: as many sets come as they have turns in common.
        rows = [(("p", "ok", 1), ("q", "ok", 2)), (("q", "ok", 3),), (("p", "ok", 20),)]
        rows += [(("go", "on", 3 + (at + 1) % 17),) for at in range(17)]
        rows += [(("go", "on", 20 + (at + 1) % 18),) for at in range(18)]
        kind = Kind(*rows)
        things = (did(0, "p"),)
        self.assertEqual(cube_answers(kind, things, 1, "q", most=17 * 18), ("ok",))
        with self.assertRaises(TooMany):
            cube_answers(kind, things, 1, "q", most=17 * 18 - 1)


if __name__ == "__main__":
    unittest.main()
