"""Promise [18]: knots and remedies."""

import unittest

import plain
from mustwait.builders import account, beside, cell, permits, queue, switch, tickets
from mustwait.errors import TooMany
from mustwait.kinds import Kind
from mustwait.stores import Store
from plain_store import PlainStore
from values import copied

ONE = permits(1)
LINE = queue(1, "a")


class Knots(unittest.TestCase):
    def make(self, system, many, *calls, most=5000):
        """A store and a plain one, after the same calls."""
        self.store, self.plain = Store.of(system, most=most), PlainStore(system, most)
        for store in (self.store, self.plain):
            for _ in range(many):
                store.begin()
        for call in calls:
            self.assertEqual(self.store.ask(*call), self.plain.ask(*call))

    def check(self, knot, remedies, waiting=None):
        before = copied((self.store.log, self.store.waiting, self.store.news))
        self.assertEqual(self.store.knot(), knot)
        self.assertEqual(self.store.remedies(), remedies)
        self.assertEqual(self.plain.knot(), knot)
        self.assertEqual(self.plain.remedies(), remedies)
        self.assertEqual((self.store.log, self.store.waiting, self.store.news), before)
        if waiting is not None:
            self.assertEqual(self.store.waiting, waiting)

    def test_none(self):
        self.make((ONE,), 0)
        self.check((), ())
        self.make((ONE,), 2, (0, 0, "get"))
        self.check((), ())

    def test_one_that_waits_for_one_outside(self):
        self.make((ONE,), 2, (0, 0, "get"), (1, 0, "get"))
        self.check((), (), (1,))

    def test_two(self):
        self.make((ONE, ONE), 2, (0, 0, "get"), (1, 1, "get"), (0, 1, "get"), (1, 0, "get"))
        self.check((0, 1), ((0,), (1,)), (0, 1))

    def test_two_the_other_way_about(self):
        self.make((ONE, ONE), 2, (0, 0, "get"), (1, 1, "get"), (1, 0, "get"), (0, 1, "get"))
        self.check((0, 1), ((0,), (1,)), (1, 0))

    def test_three(self):
        calls = [(number, number, "get") for number in range(3)] + [(number, (number + 1) % 3, "get") for number in range(3)]
        self.make((ONE, ONE, ONE), 3, *calls[:5])
        self.check((), (), (0, 1))
        self.make((ONE, ONE, ONE), 3, *calls)
        self.check((0, 1, 2), ((0,), (1,), (2,)), (0, 1, 2))

    def test_one_that_waits_for_a_knot(self):
        # 2 waits for 1, which is in a knot with 0: so all three wait for one another's sake.
        calls = ((0, 0, "get"), (1, 1, "get"), (0, 1, "get"), (1, 0, "get"), (2, 1, "get"))
        self.make((ONE, ONE), 3, *calls)
        self.check((0, 1, 2), plain_remedies(self.store), (0, 1, 2))
        self.assertEqual(self.store.remedies()[0], (0,))

    def test_another_way_out(self):
        # There are two permits: 2, which has the other one, may still abort or give it back.
        self.make((permits(2), ONE), 3, (0, 0, "get"), (2, 0, "get"), (1, 1, "get"), (0, 1, "get"), (1, 0, "get"))
        self.check((), (), (0, 1))

    def test_two_knots(self):
        system = (ONE, ONE, ONE, ONE)
        calls = ((0, 0, "get"), (1, 1, "get"), (2, 2, "get"), (3, 3, "get"), (0, 1, "get"), (1, 0, "get"), (2, 3, "get"), (3, 2, "get"))
        self.make(system, 4, *calls)
        self.check((0, 1, 2, 3), ((0, 2), (0, 3), (1, 2), (1, 3)))

    def test_a_remedy_of_more_than_one(self):
        # 2 has what 0 and 1 want, and wants all of what each of them has a share of.
        kind = Kind((("share", "ok", 1), ("whole", "ok", 3)), (("share", "ok", 2),), (), ())
        calls = ((0, 0, "share"), (1, 0, "share"), (2, 1, "get"), (2, 0, "whole"), (0, 1, "get"), (1, 1, "get"))
        self.make((kind, ONE), 3, *calls)
        self.check((0, 1, 2), ((0, 1), (2,)), (2, 0, 1))

    def test_later_wishes_that_others_may_help(self):
        # Transactions to come could put something in: so nobody is in a knot.
        self.make((LINE, LINE), 2, (0, 0, "take"), (1, 1, "take"))
        self.assertEqual([self.store.why(number)[0] for number in (0, 1)], ["later", "later"])
        self.check((), (), (0, 1))

    def test_later_wishes_in_a_knot(self):
        # Both have found it off, and it is on: they stand ahead of all to come. Each could arm what the other one needs.
        kind = Kind((("arm", "ok", 1),), (("arm", "ok", 1), ("see", "ok", 1)))
        system = (kind, kind, switch())
        calls = ((0, 2, "look"), (1, 2, "look"), (2, 2, "turn"))
        self.make(system, 3, *calls)
        for store in (self.store, self.plain):
            store.commit(2)
            self.assertIsNone(store.ask(0, 0, "see"))
            self.assertEqual(store.running, (0, 1))
        self.check((), (), (0,))
        self.assertEqual(self.store.why(0)[0], "later")
        for store in (self.store, self.plain):
            self.assertIsNone(store.ask(1, 1, "see"))
        self.check((0, 1), ((0,), (1,)), (0, 1))
        self.store.abort(0)
        self.assertEqual((self.store.news, self.store.waiting), (((1, None),), ()))

    def test_a_knot_of_both_sorts(self):
        # 0 waits for what 1 may do, 1 for the permit of 0.
        kind = Kind((("arm", "ok", 1),), (("arm", "ok", 1), ("see", "ok", 1)))
        system = (kind, ONE, switch())
        self.make(system, 3, (0, 2, "look"), (1, 2, "look"), (2, 2, "turn"), (0, 1, "get"))
        for store in (self.store, self.plain):
            store.commit(2)
            self.assertIsNone(store.ask(0, 0, "see"))
        self.check((), (), (0,))
        for store in (self.store, self.plain):
            self.assertIsNone(store.ask(1, 1, "get"))
        self.assertEqual([self.store.why(number)[0] for number in (0, 1)], ["later", "waits"])
        self.check((0, 1), ((0,), (1,)), (0, 1))

    def test_what_a_knot_does_after_a_remedy(self):
        calls = [(number, number, "get") for number in range(3)] + [(number, (number + 1) % 3, "get") for number in range(3)]
        self.make((ONE, ONE, ONE), 3, *calls)
        self.store.abort(1)
        self.assertEqual((self.store.news, self.store.knot(), self.store.remedies()), (((0, "ok"),), (), ()))

    def test_too_many(self):
        # A third transaction, which has done nothing yet, doubles the order nodes of the wishes from 3 to 6.
        for most, fine in ((6, True), (5, False)):
            calls = ((0, 0, "get"), (1, 1, "get"), (0, 1, "get"), (1, 0, "get"))
            self.make((ONE, ONE), 2, *calls, most=most)
            self.check((0, 1), ((0,), (1,)))
            self.assertEqual(self.store.begin(), self.plain.begin())
            for number in (0, 1):
                self.assertEqual(plain.count_orders((ONE, ONE), self.store.log, self.store.wish(number)), [6])
            if fine:
                self.check((0, 1), ((0,), (1,)))
                continue
            for name in ("knot", "remedies"):
                with self.assertRaises(TooMany) as caught:
                    getattr(self.store, name)()
                self.assertEqual(caught.exception.most, most)
            self.store.abort(2)
            self.assertEqual(self.store.knot(), (0, 1))

    def left_waiting(self, most, ending):
        """A store in which 6 goes on waiting for a ticket that 5 had, since there were too many nodes to look at it.

        As long as 0 is open, 1 to 4 are not settled; once they are, there are few nodes.
        """
        store = Store(cell(*"abcde"), tickets(1), most=most)
        for _ in range(5):
            store.begin()
        for number in range(1, 5):
            self.assertEqual(store.ask(number, 0, "set" + "abcde"[number]), "ok")
        for number in range(1, 5):
            store.commit(number)
        self.assertEqual([store.begin(), store.begin(), store.ask(5, 1, "next"), store.ask(6, 1, "next")], [5, 6, "1", None])
        for number in range(7, 10):
            self.assertEqual(store.begin(), number)
        getattr(store, ending)(5)
        self.assertEqual((store.news, store.waiting, len(store)), ((), (6,), 10 if ending == "commit" else 9))
        with self.assertRaises(TooMany):
            store.knot()
        store.abort(0)
        self.assertEqual((store.news, store.waiting, len(store)), ((), (6,), 5 if ending == "commit" else 4))
        return store

    def test_one_that_is_never_answered_and_still_waits(self):
        store = self.left_waiting(100, "commit")
        self.assertEqual(store.why(6)[0], "never")
        self.assertEqual((store.knot(), store.remedies()), ((), ()))
        store.abort(9)
        self.assertEqual((store.news, store.waiting), (((6, None),), ()))

    def test_one_that_can_be_given_and_still_waits(self):
        store = self.left_waiting(90, "abort")
        self.assertEqual(store.why(6)[0], "given")
        self.assertEqual((store.knot(), store.remedies()), ((), ()))
        store.abort(9)
        self.assertEqual((store.news, store.waiting), (((6, "1"),), ()))

    def test_many(self):
        five = ONE
        for _ in range(4):
            five = beside(five, ONE)
        gets = [word for word in five.operations if word.endswith("get")]
        store = Store(five, five)
        for number in range(10):
            self.assertEqual(store.begin(), number)
            self.assertEqual(store.ask(number, number % 2, gets[number // 2]), "ok")
        for number in range(10):
            self.assertIsNone(store.ask(number, 1 - number % 2, gets[number // 2]))
        self.assertEqual(store.knot(), tuple(range(10)))
        for number in (0, 2, 4):
            store.abort(number)
        self.assertEqual(store.knot(), (6, 7, 8, 9))
        self.assertEqual(store.remedies(), ((6, 8), (6, 9), (7, 8), (7, 9)))

    def test_cells_and_accounts(self):
        system = (cell("a", "b"), account(2, 1), account(2, 1))
        self.make(system, 3, (0, 0, "setb"), (1, 0, "read"), (1, 1, "put1"), (0, 2, "put1"), (0, 1, "take1"))
        self.check((), (), (0,))


def plain_remedies(store):
    """The remedies of a store by a plain try of all sets."""
    other = PlainStore(store.system)
    other.log, other.begun = store.log, 99
    other.wishes = tuple(store.wish(number) for number in store.waiting)
    return other.remedies()
