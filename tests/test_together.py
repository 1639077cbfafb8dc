"""Promise [3]: objects that decide alone by the cube are right together."""

import random
import unittest

import drawn
import plain
import plain_joint
from mustwait.alone import Alone, reaches
from mustwait.builders import account, cell, permits, pool, queue, stack, switch, tickets
from mustwait.histories import is_history, log_of
from mustwait.orders import is_fine, is_sound


def committed(log, number):
    return (log[0], tuple((e[0], True) + e[2:] if e[0] == number else e for e in log[1]))


class Whole:
    """Objects that decide alone, and the history of what they see together."""

    def __init__(self, system):
        self.system = system
        self.objects = [Alone(kind) for kind in system]
        self.history = ()
        self.running = []
        self.begun = 0

    def begin(self):
        self.history += (("begin",),)
        self.running.append(self.begun)
        self.begun += 1
        return self.begun - 1

    def ask(self, number, place, operation):
        answer = self.objects[place].ask(number, operation)
        if answer is not None:
            self.history += (("did", number, place, operation, answer),)
        return answer

    def end(self, word, number):
        """A commit or an abort comes to all objects at once."""
        for one in self.objects:
            one.commit(number) if word == "commit" else one.abort(number)
        self.history += ((word, number),)
        self.running.remove(number)


def walk(source, whole, steps, most):
    for _ in range(steps):
        way = source.random()
        if not whole.running or (way < 0.2 and len(whole.running) < most):
            whole.begin()
        elif way < 0.35:
            whole.end(source.choice(["commit", "commit", "commit", "abort"]), source.choice(whole.running))
        else:
            place = source.randrange(len(whole.system))
            if len(whole.objects[place].kept) < 7:
                whole.ask(source.choice(whole.running), place, source.choice(whole.system[place].operations))


class Together(unittest.TestCase):
    def test_small_ones(self):
        # Behind each step a plain look through all orders of all outcomes of the whole.
        source = random.Random(1)
        answers = 0
        for _ in range(150):
            whole = Whole(drawn.system(source, 3))
            walk(source, whole, 9, 3)
            if sum(thing == ("begin",) for thing in whole.history) > 5:
                continue
            self.assertTrue(is_history(whole.system, whole.history))
            for many in range(len(whole.history) + 1):
                self.assertTrue(plain.is_fine(whole.system, log_of(whole.system, whole.history[:many])))
            answers += sum(thing[0] == "did" for thing in whole.history)
        self.assertGreater(answers, 250)

    def test_longer_ones(self):
        source = random.Random(2)
        kinds = (
            account(3, 1), cell("a", "b"), pool(3, "a", "b"), queue(3, "a", "b"), stack(2, "a", "b"), permits(2), switch(),
        )
        answers = 0
        for _ in range(100):
            whole = Whole(tuple(source.choice(kinds) for _ in range(source.randrange(1, 4))))
            walk(source, whole, 24, 3)
            self.assertTrue(is_sound(whole.system, whole.history), whole.history)
            answers += sum(thing[0] == "did" for thing in whole.history)
        self.assertGreater(answers, 900)

    def test_beside_tickets(self):
        # A counter of tickets that is right itself: whoever commits takes the next one just ahead of its commit.
        source = random.Random(3)
        tickets_given = 0
        for _ in range(150):
            whole = Whole((drawn.kind_with_events(source), tickets(9)))
            for _ in range(14):
                way = source.random()
                if not whole.running or (way < 0.25 and len(whole.running) < 3):
                    whole.begin()
                elif way < 0.45:
                    number = source.choice(whole.running)
                    given = whole.ask(number, 1, "next")
                    self.assertIsNotNone(given)
                    tickets_given += 1
                    whole.end("commit", number)
                elif way < 0.5:
                    whole.end("abort", source.choice(whole.running))
                else:
                    whole.ask(source.choice(whole.running), 0, source.choice(whole.system[0].operations))
            self.assertTrue(is_sound(whole.system, whole.history), whole.history)
        self.assertGreater(tickets_given, 200)

    def test_tickets_in_another_order(self):
        # The counter gives tickets ahead of all else: the order of the tickets holds if the others allow it.
        whole = Whole((account(2, 1), tickets(3)))
        whole.begin()
        whole.begin()
        self.assertEqual([whole.ask(1, 1, "next"), whole.ask(0, 0, "put1"), whole.ask(1, 0, "put1")], ["1", "ok", "ok"])
        self.assertIsNone(whole.ask(0, 1, "next"))
        whole.end("commit", 1)
        self.assertEqual([whole.ask(0, 1, "next"), whole.ask(0, 0, "take1")], ["2", "ok"])
        whole.end("commit", 0)
        self.assertTrue(is_sound(whole.system, whole.history))

    def test_who_is_alone_there_is_answered(self):
        # If no other is open at the object, each operation that all its states answer gets an answer,
        # and an answer wherever all orders of the whole give one.
        source = random.Random(4)
        asked = 0
        for _ in range(150):
            whole = Whole(drawn.system(source, 2))
            walk(source, whole, 10, 3)
            for number in list(whole.running):
                whole.end(source.choice(["commit", "abort"]), number)
            number = whole.begin()
            for _ in range(3):
                place = source.randrange(len(whole.system))
                one = whole.objects[place]
                outcome = (number,) if number in one.kept else ()
                states = reaches(one.kind, one.things, outcome)
                shared = plain_joint.answered(one.kind, states)
                if shared:
                    self.assertIsNotNone(whole.ask(number, place, source.choice(shared)))
                    asked += 1
        self.assertGreater(asked, 200)

    def test_no_object_sees_another_one(self):
        # Each object alone lets it, and so does the whole: the order of one object fits the other one.
        whole = Whole((queue(2, "a", "b"), account(2, 1)))
        whole.begin()
        whole.begin()
        told = [whole.ask(0, 0, "puta"), whole.ask(1, 1, "put1"), whole.ask(1, 0, "putb"), whole.ask(0, 1, "put1")]
        self.assertEqual(told, ["ok", "ok", None, "ok"])
        whole.end("commit", 0)
        self.assertEqual(whole.ask(1, 0, "putb"), "ok")
        log = log_of(whole.system, whole.history)
        self.assertTrue(is_fine(whole.system, log))
        self.assertTrue(is_fine(whole.system, committed(log, 1)))


if __name__ == "__main__":
    unittest.main()
