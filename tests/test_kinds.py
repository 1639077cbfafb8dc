"""Promise [4]: words, states, kinds, equality, events and operations."""

import random
import re
import string
import unittest

from mustwait import kinds
from mustwait.builders import account, cell, queue, switch
from mustwait.errors import NoKind, StoreError
from mustwait.kinds import MOST, Kind, is_word
from values import ANY_VALUES, changed, copied, random_states


def says_word(thing):
    return type(thing) is str and re.fullmatch("[a-z0-9]{1,12}", thing) is not None


def says_states(thing):
    """Promise [4] once more, written another way."""
    if type(thing) is not tuple or not 1 <= len(thing) <= 40:
        return False
    events = set()
    for state in thing:
        if type(state) is not tuple:
            return False
        before = None
        for step in state:
            if type(step) is not tuple or len(step) != 3:
                return False
            operation, answer, goal = step
            if not says_word(operation) or not says_word(answer):
                return False
            if type(goal) is not int or goal not in range(len(thing)):
                return False
            if before is not None and not before < (operation, answer):
                return False
            before = (operation, answer)
            events.add(before)
    return len(events) <= 24


def many_events(many):
    return tuple(sorted(("do", f"a{number}", 0) for number in range(many)))


class Words(unittest.TestCase):
    def test_letters_and_digits(self):
        for letter in string.ascii_lowercase + string.digits:
            self.assertIs(is_word(letter), True)
        for word in ("put1", "0", "007", "take", "zzzzzzzzzzzz", "z9"):
            self.assertIs(is_word(word), True)

    def test_lengths(self):
        found = [is_word("a" * length) for length in range(15)]
        self.assertEqual(found, [False] + [True] * 12 + [False] * 2)

    def test_other_characters(self):
        for code in range(400):
            letter = chr(code)
            expected = letter in "abcdefghijklmnopqrstuvwxyz0123456789"
            self.assertIs(is_word(letter), expected, letter)
            self.assertIs(is_word("a" + letter), expected, letter)
            self.assertIs(is_word(letter + "a"), expected, letter)

    def test_any_value(self):
        for value in ANY_VALUES:
            self.assertIs(is_word(value), says_word(value))

    def test_by_name(self):
        self.assertIs(is_word(thing="a"), True)


class Limits(unittest.TestCase):
    def good(self, *states):
        self.assertEqual(Kind(*states).states, states)
        self.assertEqual(Kind.of(states).states, states)

    def bad(self, *states):
        with self.assertRaises(NoKind):
            Kind(*states)
        with self.assertRaises(NoKind):
            Kind.of(states)

    def test_ordinary(self):
        self.good((("read", "0", 0), ("set", "ok", 1)), (("read", "1", 1), ("set", "ok", 1)))

    def test_states_without_events(self):
        self.good(())
        self.good((), ())
        self.good((("a", "b", 1),), ())

    def test_several_answers_of_one_operation(self):
        self.good((("take", "a", 0), ("take", "b", 1)), (("take", "b", 0),))

    def test_number_of_states(self):
        self.bad()
        self.good(*[()] * 1)
        self.good(*[()] * 40)
        self.bad(*[()] * 41)
        self.good(*[(("a", "b", 39),)] * 40)
        self.bad(*[(("a", "b", 39),)] * 41)

    def test_number_of_events(self):
        self.good(many_events(24))
        self.bad(many_events(25))

    def test_number_of_events_over_all_states(self):
        rows = [((f"do{number // 10}{number % 10}", "ok", 0),) for number in range(25)]
        self.good(*rows[:24])
        self.bad(*rows)
        self.good(*rows[:24], rows[0], rows[5])

    def test_number_of_events_counts_states_that_are_not_reached(self):
        self.bad((), many_events(24), (("other", "ok", 0),))
        self.good((), many_events(24), (("do", "a0", 2),))

    def test_length_of_words(self):
        for length, fits in ((0, False), (1, True), (12, True), (13, False)):
            for step in (("a" * length, "b", 0), ("b", "a" * length, 0)):
                (self.good if fits else self.bad)((step,))

    def test_characters_of_words(self):
        for letter in ("A", " ", "-", "_", "~", "\n", ",", ":", "\u00e4", "\u00b2", "\u0661"):
            self.bad((("a" + letter, "b", 0),))
            self.bad((("b", letter + "a", 0),))

    def test_not_ascending(self):
        self.bad((("b", "a", 0), ("a", "a", 0)))
        self.bad((("a", "b", 0), ("a", "a", 0)))
        self.good((("a", "a", 0), ("a", "b", 0), ("b", "a", 0)))
        self.good((("a", "x", 0), ("a1", "x", 0)))
        self.bad((("a1", "x", 0), ("a", "x", 0)))
        self.good((("a", "10", 0), ("a", "9", 0)))
        self.bad((("a", "9", 0), ("a", "10", 0)))

    def test_a_pair_twice(self):
        self.bad((("a", "b", 0), ("a", "b", 0)))
        self.bad((("a", "b", 0), ("a", "b", 1)), ())

    def test_next_that_is_no_state(self):
        for goal in (2, 3, -1, -2, 10 ** 39, -(10 ** 39)):
            self.bad((("a", "b", goal),), ())
        self.good((("a", "b", 1),), ())

    def test_next_that_is_no_integer(self):
        for goal in (True, False, None, "0", "", (), [], (0,), {}, Kind(())):
            self.bad((("a", "b", goal),), ())
            self.bad((("a", "b", 0),), (("a", "b", goal),))

    def test_a_list_in_the_place_of_a_tuple(self):
        self.bad([])
        self.bad([("a", "b", 0)])
        self.bad((["a", "b", 0],))
        self.bad((("a", "b", 0), ["c", "d", 0]))
        self.bad((), [])
        with self.assertRaises(NoKind):
            Kind.of([()])

    def test_too_few_or_too_many_parts(self):
        for step in ((), ("a",), ("a", "b"), ("a", "b", 0, 0), ("a", 0), (("a", "b"), 0)):
            self.bad((step,))
            self.bad((("0", "0", 0), step))

    def test_values_of_other_kinds(self):
        for value in ANY_VALUES:
            self.bad((), (value,)) if not says_states(((), (value,))) else self.good((), (value,))
            self.bad((("a", value, 0),)) if not says_word(value) else self.good((("a", value, 0),))
            self.bad(((value, "a", 0),)) if not says_word(value) else self.good(((value, "a", 0),))
            self.bad(value) if not says_states((value,)) else self.good(value)

    def test_of_any_value(self):
        for value in ANY_VALUES:
            if says_states(value):
                self.assertEqual(Kind.of(value).states, value)
            else:
                with self.assertRaises(NoKind):
                    Kind.of(value)

    def test_of_by_name(self):
        self.assertEqual(Kind.of(states=((),)).states, ((),))

    def test_changed_states(self):
        chance = random.Random(4)
        counts = [0, 0]
        for number in range(6000):
            start = random_states(chance, chance.randrange(1, 5), ("a", "b"))
            thing = changed(chance, start)
            if chance.random() < 0.3:
                thing = changed(chance, thing)
            counts[says_states(thing)] += 1
            if says_states(thing):
                self.assertEqual(Kind.of(thing).states, thing)
                self.assertEqual(Kind(*thing).states, thing)
            else:
                with self.assertRaises(NoKind):
                    Kind.of(thing)
        self.assertGreater(min(counts), 500)


class Nothing(unittest.TestCase):
    """Promise [2]: arguments stay as they are, also when an error is raised."""

    def test_arguments_are_not_changed(self):
        for value in ANY_VALUES:
            before = copied(value)
            for call in (is_word, Kind, Kind.of, Kind.read, lambda thing: Kind((), thing)):
                try:
                    call(value)
                except StoreError:
                    pass
            self.assertEqual(before, value)

    def test_a_kind_is_not_changed_by_what_is_asked(self):
        kind = account(2, 1)
        states = kind.states
        for _ in range(2):
            asked = (
                kind.events, kind.operations, kind.least.states, kind.text, kind.answers(0, "put1"), kind.reached(0),
                kind.led(0, ("put1", "ok")), kind.allows(0, 1), kind.alike(0, 0), kind.difference(switch()),
            )
        self.assertIs(kind.states, states)
        self.assertEqual(asked[2], states)


class Equality(unittest.TestCase):
    def test_equal_if_the_states_are(self):
        self.assertTrue(account(2, 1) == Kind.of(account(2, 1).states))
        self.assertFalse(account(2, 1) != Kind.of(account(2, 1).states))
        self.assertTrue(Kind(()) == Kind(()))

    def test_other_kinds(self):
        self.assertFalse(account(2, 1) == account(1, 1))
        self.assertTrue(account(2, 1) != account(1, 1))
        self.assertFalse(Kind(()) == Kind((), ()))
        self.assertFalse(Kind((("a", "b", 0),)) == Kind((("a", "b", 1),), (("a", "b", 1),)))

    def test_no_other_value(self):
        for kind in (Kind(()), account(2, 1), switch()):
            for value in ANY_VALUES + [kind.states, list(kind.states), kind.text, len(kind), NoKind(), Kind]:
                if not isinstance(value, Kind):
                    self.assertIs(kind == value, False)
                    self.assertIs(value == kind, False)
                    self.assertIs(kind != value, True)

    def test_in_tuples(self):
        self.assertEqual((account(2, 1), switch()), (account(2, 1), switch()))
        self.assertNotEqual((account(2, 1), switch()), (switch(), account(2, 1)))


class Parts(unittest.TestCase):
    def test_the_number(self):
        self.assertEqual(MOST, 5000)
        self.assertEqual(kinds.MOST, 5000)

    def test_length(self):
        self.assertEqual([len(Kind(())), len(account(2, 1)), len(Kind(*[()] * 40))], [1, 3, 40])

    def test_a_kind_is_asked_for_its_length_in_a_condition(self):
        self.assertTrue(Kind(()))

    def test_events(self):
        self.assertEqual(Kind((), ()).events, ())
        kind = Kind((("b", "x", 1),), (("a", "y", 0), ("b", "x", 0)), (("a", "a", 2),))
        self.assertEqual(kind.events, (("a", "a"), ("a", "y"), ("b", "x")))
        self.assertIsInstance(kind.events, tuple)
        self.assertEqual(len(Kind(many_events(24)).events), 24)

    def test_events_ascend_as_tuples(self):
        self.assertEqual(account(1, 1).events, (("put1", "full"), ("put1", "ok"), ("take1", "no"), ("take1", "ok")))
        kind = Kind((("a", "z", 0), ("a1", "a", 0), ("b", "10", 0), ("b", "9", 0)))
        self.assertEqual(kind.events, (("a", "z"), ("a1", "a"), ("b", "10"), ("b", "9")))

    def test_operations(self):
        self.assertEqual(Kind(()).operations, ())
        kind = Kind((("b", "x", 1), ("b", "y", 1)), (("a", "y", 0), ("b", "x", 0)), (("c", "a", 2),))
        self.assertEqual(kind.operations, ("a", "b", "c"))
        self.assertEqual(queue(1, "a").operations, ("puta", "take"))

    def test_attributes(self):
        self.assertEqual(cell("a").states, ((("read", "a", 0), ("seta", "ok", 0)),))
