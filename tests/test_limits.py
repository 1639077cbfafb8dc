"""Promise [17]: how many nodes are looked at, and TooMany just beyond them."""

import inspect
import random
import unittest

import drawn
import plain
from mustwait import certificates, stories, wishes
from mustwait.builders import account, cell, queue, switch
from mustwait.errors import StoreError, TooMany
from mustwait.kinds import MOST, Kind
from values import copied

LETTER, PURSE, LINE = cell("a", "b"), account(2, 1), queue(2, "a", "b")
ONE_START = ((0,),)
TEN = cell(*"abcdefghij")


def opened(number, *row, earlier=()):
    return (number, False, earlier, row)


def done(number, *row, earlier=()):
    return (number, True, earlier, row)


class Limits(unittest.TestCase):
    def raises(self, most, function, *arguments):
        """Whether TooMany is raised."""
        before = copied(arguments[1:])
        try:
            function(*arguments, most=most)
        except TooMany as error:
            self.assertEqual(error.most, most)
            self.assertIsInstance(error, StoreError)
            return True
        finally:
            self.assertEqual(arguments[1:], before)
        return False

    def just_at(self, many, function, *arguments):
        """TooMany is raised for one node less, not for just so many."""
        self.assertIs(self.raises(many, function, *arguments), False)
        self.assertIs(self.raises(many + 1, function, *arguments), False)
        self.assertIs(self.raises(MOST * 4, function, *arguments), False)
        if many > 1:
            self.assertIs(self.raises(many - 1, function, *arguments), True)
            self.assertIs(self.raises(1, function, *arguments), True)

    def by_wish(self, system, log, wish):
        """The number of nodes at which status and decide stop raising."""
        orders = max(plain.count_orders(system, log, wish))
        if plain.status(system, log, wish) in ("given", "waits"):
            return orders
        return max(orders, *plain.count_stories(system, log, wish))


class Small(Limits):
    def test_one_alone(self):
        log = (ONE_START, (opened(0),))
        # take a and take b: just the first node; puta: the second one, too.
        self.just_at(1, wishes.can_give, (LINE,), log, (0, 0, "take"), "a")
        self.just_at(2, wishes.can_give, (LINE,), log, (0, 0, "puta"), "ok")
        self.just_at(2, wishes.status, (LINE,), log, (0, 0, "puta"))
        self.just_at(1, wishes.releases, (LINE,), log, (0, 0, "take"))

    def test_story_nodes(self):
        log = (ONE_START, (opened(0),))
        # (), () with all states, (0) with the states behind take a, and with all states.
        self.assertEqual(plain.count_stories((LINE,), log, (0, 0, "take")), [4, 4])
        self.just_at(4, wishes.status, (LINE,), log, (0, 0, "take"))
        self.just_at(4, stories.story, (LINE,), log, (0, 0, "take"))
        self.just_at(4, certificates.decide, (LINE,), log, (0, 0, "take"))

    def test_the_answer_that_counts(self):
        # Behind b there is one node more than behind a.
        log = (ONE_START, (opened(0, (0, "setb", "ok")), opened(1)))
        wish = (1, 0, "read")
        self.assertEqual(plain.count_orders((LETTER,), log, wish), [4, 3])
        self.just_at(4, wishes.can_give, (LETTER,), log, wish, "a")
        self.just_at(3, wishes.can_give, (LETTER,), log, wish, "b")
        self.just_at(3, wishes.good_sets, (LETTER,), log, wish, "b")
        self.just_at(4, wishes.releases, (LETTER,), log, wish)
        self.just_at(4, wishes.status, (LETTER,), log, wish)

    def test_an_answer_that_cannot_be_given_counts_too(self):
        # At state 0 the answer is a; b, at all others, lets the other one not come.
        kind = Kind((("ask", "a", 0), ("use", "ok", 0)), *[(("ask", "b", state),) for state in range(1, 10)])
        log = (tuple((state,) for state in range(10)), (opened(0), opened(1, (0, "use", "ok"))))
        wish = (0, 0, "ask")
        self.assertEqual([wishes.can_give((kind,), log, wish, word) for word in "ab"], [True, False])
        self.assertEqual(plain.count_orders((kind,), log, wish), [13, 20])
        self.just_at(13, wishes.can_give, (kind,), log, wish, "a")
        self.just_at(20, wishes.status, (kind,), log, wish)
        self.just_at(20, wishes.releases, (kind,), log, wish)
        self.just_at(20, certificates.decide, (kind,), log, wish)

    def test_order_nodes_of_all_entries(self):
        # Not just those of the sets that are looked for: also such as lead nowhere, and such without the wishing one.
        log = (ONE_START, tuple(opened(n, (0, "set" + "abcdefghij"[n], "ok")) for n in range(5)) + (opened(5),))
        self.assertEqual(plain.count_orders((TEN,), log, (5, 0, "setj")), [1 + 6 * 32])
        self.just_at(193, wishes.can_give, (TEN,), log, (5, 0, "setj"), "ok")
        self.just_at(193, wishes.good_sets, (TEN,), log, (5, 0, "setj"), "ok")
        self.just_at(193, certificates.decide, (TEN,), log, (5, 0, "setj"))

    def test_starts_are_nodes(self):
        starts = tuple((state,) for state in range(10))
        log = (starts, (opened(0),))
        self.assertEqual(plain.count_orders((TEN,), log, (0, 0, "seta")), [11])
        self.just_at(11, wishes.can_give, (TEN,), log, (0, 0, "seta"), "ok")
        self.assertEqual(plain.count_orders((TEN,), log, (0, 0, "read")), [11] * 10)
        self.just_at(11, wishes.status, (TEN,), log, (0, 0, "read"))

    def test_status_looks_at_story_nodes_only_if_it_must(self):
        log = (ONE_START, (opened(0), opened(1, (0, "puta", "ok"))))
        wish = (0, 0, "take")
        self.assertEqual(wishes.status((LINE,), log, wish), "waits")
        orders, told = max(plain.count_orders((LINE,), log, wish)), max(plain.count_stories((LINE,), log, wish))
        self.assertLess(orders, told)
        self.just_at(orders, wishes.status, (LINE,), log, wish)
        self.just_at(orders, certificates.decide, (LINE,), log, wish)
        self.just_at(told, stories.story, (LINE,), log, wish)

    def test_order_nodes_do_not_count_for_stories(self):
        # Each one sets four cells, so orders lead to many states; stories go on to all states.
        system = (TEN,) * 2
        entries = [opened(n, (0, "set" + "abcde"[n], "ok")) for n in range(5)]
        log = (((0, 0),), tuple(entries) + (opened(5),))
        wish = (5, 0, "read")
        orders, told = max(plain.count_orders(system, log, wish)), max(plain.count_stories(system, log, wish))
        self.assertGreater(orders, told)
        self.just_at(told, stories.story, system, log, wish)
        self.just_at(orders, wishes.status, system, log, wish)

    def test_settled(self):
        log = (ONE_START, (done(0, (0, "puta", "ok")), done(1, (0, "putb", "ok"))))
        self.assertEqual(len(plain.story_nodes((LINE,), log, None)), 6)
        for function in (stories.settled, stories.folded, certificates.lot_certificate):
            self.just_at(6, function, (LINE,), log)

    def test_no_entries(self):
        log = (((1,), (2,)), ())
        many = len(plain.story_nodes((LINE,), log, None))
        for function in (stories.settled, stories.folded, certificates.lot_certificate):
            self.just_at(many, function, (LINE,), log)

    def test_the_default(self):
        self.assertEqual(MOST, 5000)
        for function in (
            wishes.can_give, wishes.good_sets, wishes.releases, wishes.status, stories.story, stories.settled,
            stories.folded, certificates.decide, certificates.lot_certificate,
        ):
            parameter = inspect.signature(function).parameters["most"]
            self.assertEqual((parameter.default, parameter.kind), (5000, inspect.Parameter.KEYWORD_ONLY))

    def test_more_than_the_default(self):
        entries = [opened(n, (0, "set" + "abcdefghij"[n], "ok")) for n in range(9)] + [opened(9)]
        log = (ONE_START, tuple(entries))
        # Behind each set of others there is a node for each of them, and one for none; so with the wishing one.
        self.assertEqual(wishes.status((TEN,), log, (9, 0, "seta")), "given")
        system = (TEN, TEN)
        wide = [opened(n, *entries[n][3], (1, "set" + "bcdefghija"[n], "ok")) for n in range(9)]
        rows = tuple(wide[:4] + [opened(n, (n % 2, "set" + "abcdefghij"[n], "ok")) for n in range(4, 9)] + [opened(9)])
        log = (((0, 0),), rows)
        with self.assertRaises(TooMany) as caught:
            wishes.status(system, log, (9, 0, "setj"))
        self.assertEqual(caught.exception.most, 5000)
        self.assertEqual(wishes.status(system, log, (9, 0, "setj"), most=20000), "given")


class Drawn(Limits):
    def test_wishes(self):
        source = random.Random(171)
        for _ in range(150):
            system = drawn.system(source, 3)
            log = drawn.fine_log(source, system)
            wish = drawn.wish(source, system, log)
            orders = plain.count_orders(system, log, wish)
            for answer, many in zip(plain.possible_answers(system, wish), orders):
                self.just_at(many, wishes.can_give, system, log, wish, answer)
                self.just_at(many, wishes.good_sets, system, log, wish, answer)
            self.just_at(max(orders), wishes.releases, system, log, wish)
            self.just_at(self.by_wish(system, log, wish), wishes.status, system, log, wish)
            self.just_at(self.by_wish(system, log, wish), certificates.decide, system, log, wish)

    def test_stories(self):
        source = random.Random(172)
        for _ in range(150):
            system = drawn.system(source, 3)
            log = drawn.fine_log(source, system)
            wish = drawn.wish(source, system, log)
            self.just_at(max(plain.count_stories(system, log, wish)), stories.story, system, log, wish)

    def test_lots(self):
        source = random.Random(173)
        for _ in range(150):
            system = drawn.system(source, 3)
            log = drawn.fine_log(source, system)
            many = len(plain.story_nodes(system, log, None))
            for function in (stories.settled, stories.folded, certificates.lot_certificate):
                self.just_at(many, function, system, log)
