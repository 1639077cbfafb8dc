"""Promises [20] to [24]: objects of the class Alone, step by step."""

import random
import unittest

import drawn
import plain_alone
from mustwait.alone import Alone
from mustwait.builders import account, cell, pool, queue, switch, tickets
from mustwait.errors import NoOperation, NotOpen, StoreError, TooMany
from mustwait.kinds import MOST, Kind
from values import ANY_VALUES

LINE, PURSE = queue(2, "a", "b"), account(2, 1)


def state_of(one):
    return (one.things, one.kept, one.kind.states, one.most)


class Asking(unittest.TestCase):
    def test_a_new_one(self):
        one = Alone(LINE)
        self.assertEqual([one.kind == LINE, one.most, one.things, one.kept], [True, MOST, (), ()])
        self.assertEqual(Alone(kind=LINE, most=7).most, 7)

    def test_the_first_answer_is_given(self):
        one = Alone(pool(2, "a", "b"))
        for word in ("putb", "puta"):
            one.ask(0, word)
        one.commit(0)
        self.assertEqual([one.ask(1, "take"), one.ask(1, "take"), one.ask(1, "take")], ["a", "b", None])

    def test_none_changes_nothing(self):
        one = Alone(LINE)
        self.assertEqual(one.ask(0, "puta"), "ok")
        before = state_of(one)
        self.assertIsNone(one.ask(1, "putb"))
        self.assertEqual(state_of(one), before)
        # Whoever got no answer has no things here, and may ask again.
        self.assertIsNone(one.ask(1, "take"))
        self.assertEqual(state_of(one), before)
        self.assertEqual([one.commit(0), one.ask(1, "putb")], [None, "ok"])

    def test_things(self):
        one = Alone(PURSE)
        one.ask(10 ** 30, "put1")
        one.commit(4)
        one.abort(5)
        one.ask(0, "put1")
        one.commit(10 ** 30)
        self.assertEqual(one.things, (
            ("did", 10 ** 30, "put1", "ok"), ("commit", 4), ("abort", 5), ("did", 0, "put1", "ok"), ("commit", 10 ** 30),
        ))
        self.assertEqual(one.kept, (0, 10 ** 30))

    def test_kept(self):
        one = Alone(PURSE)
        one.ask(0, "put1")
        one.ask(1, "put1")
        one.commit(0)
        # 1 may come ahead of 0 as well as behind it, until it gets an answer behind the commit of 0.
        self.assertEqual(one.kept, (0, 1))
        self.assertEqual([one.ask(1, "take1"), one.kept], ["ok", (1,)])
        one.commit(1)
        self.assertEqual(one.kept, ())

    def test_an_abort_may_settle_others(self):
        one = Alone(PURSE)
        one.ask(0, "put1")
        one.ask(1, "put1")
        one.commit(0)
        one.abort(1)
        self.assertEqual(one.kept, ())
        self.assertEqual([one.ask(2, "take1"), one.ask(2, "take1")], ["ok", "no"])

    def test_by_name(self):
        one = Alone(LINE)
        self.assertEqual(one.ask(number=0, operation="puta"), "ok")
        self.assertIsNone(one.commit(number=0))
        self.assertIsNone(one.abort(number=1))


class Errors(unittest.TestCase):
    def check(self, one, error, attribute, worth, call, *rest):
        before = state_of(one)
        with self.assertRaises(error) as caught:
            call(*rest)
        self.assertIs(type(caught.exception), error)
        self.assertIsInstance(caught.exception, StoreError)
        told = getattr(caught.exception, attribute)
        self.assertEqual((type(told), told), (type(worth), worth))
        self.assertEqual(state_of(one), before)

    def test_not_open(self):
        one = Alone(LINE)
        one.ask(0, "puta")
        one.commit(0)
        one.abort(1)
        one.commit(2)
        for number in (0, 1, 2):
            for call in (one.commit, one.abort):
                self.check(one, NotOpen, "number", number, call, number)
            self.check(one, NotOpen, "number", number, one.ask, number, "take")
            # It is listed first, so it comes first.
            self.check(one, NotOpen, "number", number, one.ask, number, "look")
        self.assertEqual(one.ask(3, "take"), "a")

    def test_no_operation(self):
        one = Alone(LINE)
        for operation in ("look", "put", "", "puta ", "ok", None, 0, True, ("puta",), ["puta"], {"puta": 1}):
            self.check(one, NoOperation, "operation", operation, one.ask, 0, operation)
        nothing = Alone(Kind(()))
        self.check(nothing, NoOperation, "operation", "puta", nothing.ask, 0, "puta")

    def test_operations_of_any_value(self):
        one = Alone(LINE)
        for operation in ANY_VALUES:
            with self.assertRaises(NoOperation):
                one.ask(0, operation)
        self.assertEqual(state_of(one), state_of(Alone(LINE)))

    def test_operations_at_states_that_are_not_reached(self):
        one = Alone(Kind((("go", "on", 0),), (("stay", "on", 0),)))
        self.assertEqual([one.ask(0, "stay"), one.ask(0, "go")], [None, "on"])

    def test_too_many(self):
        one = Alone(cell("a", "b", "c"), most=2)
        self.check(one, TooMany, "most", 2, one.ask, 0, "read")
        # It comes behind the others.
        self.check(one, NoOperation, "operation", "look", one.ask, 0, "look")
        one.commit(0)
        self.check(one, NotOpen, "number", 0, one.ask, 0, "read")
        self.assertEqual(Alone(cell("a", "b", "c"), most=3).ask(0, "read"), "a")

    def test_too_many_comes_again(self):
        # What has been found joint is remembered, what had too many sets is not taken for it.
        one = Alone(queue(2, "a", "b"), most=6)
        for _ in range(3):
            self.check(one, TooMany, "most", 6, one.ask, 0, "puta")
        self.assertEqual(Alone(queue(2, "a", "b"), most=7).ask(0, "puta"), "ok")


class Walks(unittest.TestCase):
    def test_drawn_walks(self):
        source = random.Random(1)
        answered = 0
        for _ in range(250):
            kind = drawn.kind_with_events(source)
            one = Alone(kind)
            numbers, gone = [0, 1, 2, 3, 10 ** 25], []
            for _ in range(source.randrange(3, 16)):
                number, way = source.choice(numbers), source.random()
                before = one.things
                if number in gone:
                    with self.assertRaises(NotOpen):
                        source.choice([one.commit, one.abort, lambda it: one.ask(it, "look")])(number)
                    self.assertEqual(one.things, before)
                elif way < 0.3:
                    call = source.choice(["commit", "commit", "abort"])
                    self.assertIsNone(getattr(one, call)(number))
                    self.assertEqual(one.things, before + ((call, number),))
                    gone.append(number)
                elif len(set(one.kept) | {number}) <= 4:
                    operation = source.choice(kind.operations)
                    wanted = plain_alone.cube_answers(kind, before, number, operation)
                    told = one.ask(number, operation)
                    self.assertEqual(told, wanted[0] if wanted else None, (kind.text, before, number, operation))
                    longer = before + ((("did", number, operation, told),) if wanted else ())
                    self.assertEqual(one.things, longer)
                    answered += bool(wanted)
                self.assertEqual(one.kept, plain_alone.kept(one.things))
        self.assertGreater(answered, 500)

    def test_one_behind_another(self):
        for kind, words in ((PURSE, ("put1", "take1")), (LINE, ("puta", "take")), (switch(), ("look", "look"))):
            one = Alone(kind)
            for number in range(100):
                self.assertIsNotNone(one.ask(number, words[number % 2]))
                self.assertEqual(one.kept, (number,))
                one.commit(number)
                self.assertEqual(one.kept, ())
            self.assertEqual(len(one.things), 200)

    def test_one_beside_another(self):
        # There is always one open, so that each one is settled a step behind its commit.
        one = Alone(switch())
        one.ask(0, "look")
        for number in range(1, 66):
            self.assertEqual(one.ask(number, "look"), "off")
            one.commit(number - 1)
            self.assertEqual(one.kept, (number - 1, number))
            self.assertEqual(one.ask(number, "look"), "off")
            self.assertEqual(one.kept, (number,))

    def test_eight_at_once(self):
        one = Alone(account(30, 1))
        for number in range(8):
            self.assertEqual(one.ask(number, "put1"), "ok")
        self.assertEqual(one.kept, tuple(range(8)))
        for number in range(8):
            self.assertEqual(one.ask(number, "take1"), "ok")
        self.assertEqual(one.ask(0, "take1"), "no")
        self.assertIsNone(one.ask(1, "put1"))
        for number in range(8):
            one.commit(number)
        self.assertEqual(one.kept, ())
        self.assertEqual(one.ask(9, "take1"), "no")

    def test_tickets(self):
        one = Alone(tickets(3))
        self.assertEqual([one.ask(0, "next"), one.ask(1, "next"), one.abort(0), one.ask(1, "next")], ["1", None, None, "1"])
        self.assertEqual([one.commit(1), one.ask(2, "next"), one.ask(2, "next"), one.ask(2, "next")], [None, "2", "3", None])


if __name__ == "__main__":
    unittest.main()
