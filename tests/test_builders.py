"""Promises [4] and [5] with the builders: mustwait.builders."""

import itertools
import random
import re
import unittest

from mustwait.builders import account, beside, cell, counter, permits, pool, queue, stack, switch, tickets
from mustwait.errors import NoKind
from mustwait.kinds import Kind
from values import ANY_VALUES, copied, random_states

HUGE = 10 ** 39
WORDS = [f"w{number:02d}" for number in range(30)]


def is_number(thing, least, most=None):
    return type(thing) is int and thing >= least and (most is None or thing <= most)


def is_short_word(thing):
    return type(thing) is str and re.fullmatch("[a-z0-9]{1,9}", thing) is not None


class Case(unittest.TestCase):
    def bad(self, builder, *args, **named):
        with self.assertRaises(NoKind, msg=builder.__name__):
            builder(*args, **named)

    def fits(self, expected, builder, *args):
        if expected:
            self.check_least(builder(*args))
        else:
            self.bad(builder, *args)

    def check_least(self, kind):
        self.assertIsInstance(kind, Kind)
        self.assertEqual(kind.reached(0), tuple(range(len(kind))))
        self.assertEqual(kind.least, kind)

    def follow(self, kind, first, told, operations):
        """The states of a kind do what told says of what they hold: told gives (answer, held) for each answer."""
        self.check_least(kind)
        held = {0: first}
        rows = [0]
        for state in rows:
            for operation in operations:
                wanted = sorted(told(held[state], operation))
                self.assertEqual(kind.answers(state, operation), tuple(answer for answer, _ in wanted))
                for answer, thing in wanted:
                    goal = kind.led(state, (operation, answer))
                    if goal not in held:
                        held[goal] = thing
                        rows.append(goal)
                    self.assertEqual(held[goal], thing)
        self.assertEqual(sorted(rows), list(range(len(kind))))
        self.assertTrue(set(kind.operations) <= set(operations))
        return held


class Cell(Case):
    def test_states(self):
        self.assertEqual(cell("a").states, ((("read", "a", 0), ("seta", "ok", 0)),))
        wanted = (
            (("read", "a", 0), ("seta", "ok", 0), ("setb", "ok", 1)),
            (("read", "b", 1), ("seta", "ok", 0), ("setb", "ok", 1)),
        )
        self.assertEqual(cell("a", "b").states, wanted)

    def test_begins_with_the_first_word(self):
        self.assertEqual(cell("b", "a").states[0][0], ("read", "b", 0))
        self.assertEqual(cell("c", "b", "a").states[1][0], ("read", "a", 1))
        self.assertEqual(cell("c", "b", "a"), cell("c", "a", "b"))

    def test_what_it_does(self):
        for words in (("x",), ("b", "a"), ("0", "set", "read", "a1"), tuple(WORDS[:12])):
            def told(held, operation):
                return [(held, held)] if operation == "read" else [("ok", operation[3:])]
            held = self.follow(cell(*words), words[0], told, ["read"] + ["set" + word for word in words])
            self.assertEqual(sorted(held.values()), sorted(words))

    def test_limits(self):
        self.fits(True, cell, *WORDS[:12])
        self.fits(False, cell, *WORDS[:13])
        self.fits(True, cell, "a" * 9)
        self.fits(False, cell, "a" * 10)
        self.fits(False, cell, "b", "a" * 10)
        self.bad(cell, *[str(number) for number in range(15000)])

    def test_wrong_words(self):
        self.bad(cell)
        self.bad(cell, "a", "a")
        self.bad(cell, "a", "b", "a")
        self.bad(cell, ("a", "b"))
        for word in ("", "A", "a b", "a-", "\u00e4", "a" * 13):
            self.bad(cell, word)
            self.bad(cell, "a", word)


class Counter(Case):
    def test_states(self):
        self.assertEqual(counter(0).states, ((("read", "0", 0),),))
        wanted = (
            (("add", "ok", 1), ("read", "0", 0)),
            (("add", "ok", 2), ("read", "1", 1), ("sub", "ok", 0)),
            (("read", "2", 2), ("sub", "ok", 1)),
        )
        self.assertEqual(counter(2).states, wanted)
        self.assertEqual(counter(most=2).states, wanted)

    def test_what_it_does(self):
        for most in (0, 1, 2, 5, 11, 21):
            def told(held, operation):
                if operation == "read":
                    return [(str(held), held)]
                after = held + 1 if operation == "add" else held - 1
                return [("ok", after)] if 0 <= after <= most else []
            held = self.follow(counter(most), 0, told, ["add", "sub", "read"])
            self.assertEqual(held, {number: number for number in range(most + 1)})

    def test_limits(self):
        for most in range(45):
            self.fits(most <= 21, counter, most)
        for most in (HUGE, HUGE - 1, -1, -HUGE):
            self.bad(counter, most)


class Account(Case):
    def told(self, most):
        def told(held, operation):
            if operation.startswith("put"):
                after = held + int(operation[3:])
                return [("ok", after)] if after <= most else [("full", held)]
            after = held - int(operation[4:])
            return [("ok", after)] if after >= 0 else [("no", held)]
        return told

    def test_states(self):
        wanted = (
            (("put1", "ok", 1), ("take1", "no", 0)),
            (("put1", "ok", 2), ("take1", "ok", 0)),
            (("put1", "full", 2), ("take1", "ok", 1)),
        )
        self.assertEqual(account(2, 1).states, wanted)
        self.assertEqual(account(5, 5).states, ((("put5", "ok", 1), ("take5", "no", 0)), (("put5", "full", 1), ("take5", "ok", 0))))

    def test_no_amounts(self):
        for most in (0, 1, 39, 40, 10 ** 9, HUGE):
            self.assertEqual(account(most), Kind(()))
        self.assertEqual(account(most=3), Kind(()))

    def test_numbers_that_are_not_reached_are_no_states(self):
        self.assertEqual(len(account(100, 60)), 2)
        self.assertEqual(len(account(100, 10)), 11)
        self.assertEqual(len(account(300000000, 80000000)), 4)

    def test_what_it_does(self):
        cases = [(1, 1), (3, 1), (3, 2), (3, 3), (4, 2, 3), (6, 3, 1), (6, 1, 2, 3, 4, 5, 6), (39, 1), (100, 60, 90), (9, 5, 7)]
        for most, *amounts in cases:
            operations = [f"{word}{amount}" for amount in amounts for word in ("put", "take")]
            self.follow(account(most, *amounts), 0, self.told(most), operations)

    def test_all_states_and_events_that_are_reached(self):
        chance = random.Random(7)
        counts = [0, 0]
        for _ in range(300):
            most = chance.randrange(1, 120)
            amounts = chance.sample(range(1, most + 1), min(most, chance.randrange(1, 4)))
            found = {0}
            while True:
                more = {held + sign * amount for held in found for amount in amounts for sign in (1, -1)}
                more = found | {held for held in more if 0 <= held <= most}
                if more == found:
                    break
                found = more
            counts[len(found) <= 40] += 1
            self.fits(len(found) <= 40, account, most, *amounts)
            if len(found) <= 40:
                self.assertEqual(len(account(most, *amounts)), len(found))
        self.assertGreater(min(counts), 50)

    def test_limits(self):
        for most in range(1, 45):
            self.fits(most <= 39, account, most, 1)
        self.fits(True, account, 6, *range(1, 7))
        self.fits(False, account, 7, *range(1, 8))
        self.fits(True, account, 99999999, 99999999)
        self.fits(True, account, 390000000, 10000000)
        self.fits(True, account, 399999999, 10000000)
        self.fits(False, account, 400000000, 10000000)
        self.fits(False, account, 100000000, 100000000)
        self.fits(False, account, HUGE, HUGE)
        self.fits(False, account, HUGE, HUGE // 2)
        self.fits(False, account, HUGE, 1)
        self.fits(False, account, HUGE, 99999999, 99999998)
        self.bad(account, HUGE, *range(1, 15000))

    def test_numbers_of_thousands_of_digits(self):
        self.bad(account, 10 ** 5000, 10 ** 4999)
        self.bad(account, 10 ** 5000, 1)
        self.assertEqual(account(10 ** 5000), Kind(()))
        for builder in (counter, tickets, permits):
            self.bad(builder, 10 ** 5000)

    def test_wrong_amounts(self):
        self.bad(account, 5, 0)
        self.bad(account, 5, 6)
        self.bad(account, 5, 1, 6)
        self.bad(account, 5, -1)
        self.bad(account, 5, 1, 1)
        self.bad(account, 5, 2, 1, 2)
        self.bad(account, 0, 0)
        self.bad(account, 0, 1)
        self.bad(account, 5, True)
        self.bad(account, 5, 2, True)
        self.bad(account, 5, "1")
        self.bad(account, 5, (1, 2))
        self.bad(account, -1)
        self.bad(account, -1, 1)
        self.bad(account, True)
        self.bad(account, False)
        self.bad(account, True, 1)


class Containers(Case):
    def told(self, places, take):
        def told(held, operation):
            if operation == "take":
                return take(held)
            return [("ok", held + [operation[3:]])] if len(held) < places else []
        return told

    def check(self, builder, take, cases):
        for places, words in cases:
            kind = builder(places, *words)
            self.follow(kind, [], self.told(places, take), ["take"] + ["put" + word for word in words])

    def test_queue(self):
        self.assertEqual(queue(1, "a").states, ((("puta", "ok", 1),), (("take", "a", 0),)))
        cases = [(1, "a"), (3, "a"), (39, "a"), (1, "ba"), (2, "ab"), (4, "ba"), (3, "cab"), (2, "abcde"), (1, WORDS[:12])]
        self.check(queue, lambda held: [(held[0], held[1:])] if held else [], cases)
        kind = queue(2, "a", "b")
        both = kind.led(0, ("putb", "ok"), ("puta", "ok"))
        self.assertEqual([kind.answers(both, "take"), kind.answers(both, "puta"), kind.answers(0, "take")], [("b",), (), ()])

    def test_stack(self):
        cases = [(1, "a"), (3, "a"), (39, "a"), (1, "ba"), (2, "ab"), (4, "ba"), (3, "cab"), (2, "abcde"), (1, WORDS[:12])]
        self.check(stack, lambda held: [(held[-1], held[:-1])] if held else [], cases)
        kind = stack(2, "a", "b")
        both = kind.led(0, ("putb", "ok"), ("puta", "ok"))
        self.assertEqual([kind.answers(both, "take"), kind.answers(both, "puta"), kind.answers(0, "take")], [("a",), (), ()])
        self.assertEqual(kind.answers(kind.led(both, ("take", "a")), "take"), ("b",))

    def test_pool(self):
        for places, words in [(1, "a"), (39, "a"), (1, "ba"), (2, "ba"), (7, "ab"), (4, "cab"), (3, "abcd"), (2, WORDS[:7]), (1, WORDS[:12])]:
            def told(held, operation):
                if operation == "take":
                    return [(word, sorted(held[:held.index(word)] + held[held.index(word) + 1:])) for word in set(held)]
                return [("ok", sorted(held + [operation[3:]]))] if len(held) < places else []
            self.follow(pool(places, *words), [], told, ["take"] + ["put" + word for word in words])
        kind = pool(2, "a", "b")
        both = kind.led(0, ("putb", "ok"), ("puta", "ok"))
        self.assertEqual(both, kind.led(0, ("puta", "ok"), ("putb", "ok")))
        self.assertEqual([kind.answers(both, "take"), kind.answers(both, "puta"), kind.answers(0, "take")], [("a", "b"), (), ()])

    def test_the_order_of_the_words_does_not_matter(self):
        for builder in (queue, stack, pool):
            self.assertEqual(builder(2, "b", "a", "c"), builder(2, "a", "b", "c"))

    def test_one_word(self):
        for places in (1, 2, 39):
            self.assertEqual(queue(places, "a"), stack(places, "a"))
            self.assertEqual(queue(places, "a"), pool(places, "a"))

    def test_words_that_look_like_operations(self):
        for builder in (queue, stack, pool):
            self.check_least(builder(1, "take", "put", "ok"))
            self.assertEqual(builder(1, "take").operations, ("puttake", "take"))

    def test_limits_of_queue_and_stack(self):
        most = {1: 39, 2: 4, 3: 3, 4: 2, 5: 2, 6: 1, 11: 1, 12: 1, 13: 0, 20: 0, 25: 0}
        for many, fit in most.items():
            for places in list(range(1, 6)) + [39, 40, 41, HUGE]:
                for builder in (queue, stack):
                    self.fits(places <= fit, builder, places, *WORDS[:many])

    def test_limits_of_pool(self):
        most = {1: 39, 2: 7, 3: 4, 4: 3, 5: 2, 6: 2, 7: 2, 8: 1, 12: 1, 13: 0, 20: 0, 25: 0}
        for many, fit in most.items():
            for places in list(range(1, 10)) + [39, 40, 41, HUGE]:
                self.fits(places <= fit, pool, places, *WORDS[:many])

    def test_length_of_words(self):
        for builder in (queue, stack, pool):
            self.fits(True, builder, 1, "a" * 9)
            self.fits(False, builder, 1, "a" * 10)
            self.fits(False, builder, 1, "b", "a" * 12)
            self.fits(False, builder, 1, "b", "a" * 13)

    def test_wrong_arguments(self):
        for builder in (queue, stack, pool):
            for places in (0, -1, -HUGE, True, False, None, "1", (1,), [1]):
                self.bad(builder, places, "a")
            self.bad(builder, 1)
            self.bad(builder, places=1)
            self.bad(builder, 1, "a", "a")
            self.bad(builder, 2, "a", "b", "a")
            self.bad(builder, 1, ("a", "b"))
            for word in ("", "A", "a b", "-", 1, None, True, ["a"], {"a": 1}):
                self.bad(builder, 1, word)
                self.bad(builder, 1, "a", word)
            self.bad(builder, HUGE, *[str(number) for number in range(15000)])


class Others(Case):
    def test_switch(self):
        self.assertEqual(switch().states, ((("look", "off", 0), ("turn", "ok", 1)), (("look", "on", 1), ("turn", "ok", 1))))
        self.check_least(switch())

    def test_tickets(self):
        self.assertEqual(tickets(0), Kind(()))
        self.assertEqual(tickets(most=2).states, ((("next", "1", 1),), (("next", "2", 2),), ()))
        for most in (0, 1, 9, 10, 24):
            def told(held, operation):
                return [(str(held + 1), held + 1)] if held < most else []
            self.follow(tickets(most), 0, told, ["next"])

    def test_permits(self):
        self.assertEqual(permits(0), Kind(()))
        wanted = ((("get", "ok", 1),), (("back", "ok", 0), ("get", "ok", 2)), (("back", "ok", 1),))
        self.assertEqual(permits(many=2).states, wanted)
        for many in (0, 1, 5, 39):
            def told(held, operation):
                after = held + 1 if operation == "get" else held - 1
                return [("ok", after)] if 0 <= after <= many else []
            self.follow(permits(many), 0, told, ["get", "back"])

    def test_limits(self):
        for number in range(45):
            self.fits(number <= 24, tickets, number)
            self.fits(number <= 39, permits, number)
        for builder in (tickets, permits, counter):
            for number in (HUGE, -1, -HUGE, True, False, None, "1", (), (1,), [1], {1: 1}):
                self.bad(builder, number)


class AnyValues(Case):
    def test_each_argument(self):
        for value in ANY_VALUES:
            before = copied(value)
            self.fits(is_short_word(value), cell, value)
            self.fits(is_short_word(value) and value != "b", cell, "b", value)
            self.fits(is_number(value, 0, 21), counter, value)
            self.fits(is_number(value, 0, 24), tickets, value)
            self.fits(is_number(value, 0, 39), permits, value)
            self.fits(is_number(value, 0), account, value)
            self.fits(is_number(value, 1, 39), account, value, 1)
            self.fits(is_number(value, 1, 3), account, 3, value)
            self.fits(is_number(value, 2, 3), account, 3, 1, value)
            for builder in (queue, stack, pool):
                self.fits(is_number(value, 1, 39), builder, value, "a")
                self.fits(is_short_word(value), builder, 1, value)
                self.fits(is_short_word(value) and value != "b", builder, 1, "b", value)
            self.assertEqual(value, before)


class Beside(Case):
    def reference(self, one, other):
        rows = []
        for mine, theirs in itertools.product(range(len(one)), range(len(other))):
            row = [("l" + step[0], step[1], (step[2], theirs)) for step in one.states[mine]]
            row += [("r" + step[0], step[1], (mine, step[2])) for step in other.states[theirs]]
            rows.append(row)
        many = len(other)
        return Kind(*[tuple((*step[:2], step[2][0] * many + step[2][1]) for step in row) for row in rows]).least

    def test_states(self):
        kind = beside(switch(), tickets(1))
        wanted = (
            (("llook", "off", 0), ("lturn", "ok", 1), ("rnext", "1", 2)),
            (("llook", "on", 1), ("lturn", "ok", 1), ("rnext", "1", 3)),
            (("llook", "off", 2), ("lturn", "ok", 3)),
            (("llook", "on", 3), ("lturn", "ok", 3)),
        )
        self.assertEqual(kind.states, wanted)
        self.assertEqual(beside(other=tickets(1), one=switch()), kind)

    def test_left_and_right(self):
        self.assertEqual(beside(switch(), Kind(())).operations, ("llook", "lturn"))
        self.assertEqual(beside(Kind(()), switch()).operations, ("rlook", "rturn"))
        self.assertEqual(beside(Kind(()), Kind(())), Kind(()))

    def test_of_one_kind_twice(self):
        self.assertEqual(beside(switch(), switch()).operations, ("llook", "lturn", "rlook", "rturn"))
        self.check_least(beside(switch(), switch()))

    def test_against_all_pairs(self):
        kinds = [switch(), account(2, 1), cell("b", "a"), queue(1, "a", "b"), tickets(2), permits(3), Kind(()), stack(2, "a")]
        chance = random.Random(8)
        kinds += [Kind(*random_states(chance, chance.randrange(1, 6), ("a", "b"), 0.4)) for _ in range(25)]
        for one, other in itertools.product(kinds, kinds):
            kind = beside(one, other)
            self.assertEqual(kind, self.reference(one, other))
            self.assertEqual(len(kind), len(one.least) * len(other.least))
            self.assertEqual(kind.least, kind)

    def test_kinds_that_are_not_least(self):
        ring = Kind(*[(("go", "ok", (number + 1) % 40),) for number in range(40)])
        self.assertEqual(beside(ring, ring), Kind((("lgo", "ok", 0), ("rgo", "ok", 0))))
        lost = Kind((("a", "x", 0),), (("z" * 12, "y", 1),), *[()] * 38)
        self.assertEqual(beside(lost, lost), Kind((("la", "x", 0), ("ra", "x", 0))))
        many = Kind((("a", "x", 0),), tuple(("b", f"{number:02d}", 0) for number in range(23)))
        self.assertEqual(beside(many, many), Kind((("la", "x", 0), ("ra", "x", 0))))

    def test_limit_of_states(self):
        self.fits(True, beside, permits(4), permits(7))
        self.fits(False, beside, permits(4), permits(8))
        self.fits(False, beside, permits(6), permits(5))
        self.fits(True, beside, permits(39), Kind(()))
        self.fits(False, beside, permits(39), permits(1))
        self.fits(False, beside, permits(39), permits(39))

    def test_limit_of_events(self):
        one = Kind(tuple(("a", f"{number:02d}", 0) for number in range(24)))
        self.fits(True, beside, one, Kind(()))
        self.fits(False, beside, one, Kind((("a", "x", 0),)))
        self.fits(True, beside, cell(*WORDS[:6]), cell(*WORDS[:6]))
        self.fits(False, beside, cell(*WORDS[:7]), cell(*WORDS[:6]))

    def test_limit_of_letters(self):
        for length in (1, 11, 12):
            kind = Kind((("a" * length, "x" * 12, 0),))
            self.fits(length < 12, beside, kind, switch())
            self.fits(length < 12, beside, switch(), kind)

    def test_again_and_again(self):
        kind = Kind((("a", "x", 0),))
        for _ in range(11):
            kind = beside(kind, Kind(()))
        self.assertEqual(kind.operations, ("l" * 11 + "a",))
        self.bad(beside, kind, Kind(()))
