"""Promise [29]: the five controls, what each lets and holds back."""

import random
import unittest

import drawn
import plain_alone
import plain_controls
from mustwait.builders import account, cell, counter, permits, pool, queue, switch, tickets
from mustwait.controls import CONTROLS, held_back
from mustwait.errors import TooMany
from mustwait.histories import is_history
from mustwait.kinds import Kind
from mustwait.orders import unsound_at

LETTER, LINE, PURSE = cell("a", "b"), queue(2, "a", "b"), account(2, 1)
BEGIN = ("begin",)


def did(number, place, operation, answer="ok"):
    return ("did", number, place, operation, answer)


def small_kind(source):
    while True:
        kind = drawn.kind_with_events(source)
        if len(kind.events) <= 6:
            return kind


def drawn_history(source, system, many, most=3, share=0.9):
    """A history most of whose answers some control lets; some transactions get nothing."""
    history, running, begun = (), [], 0
    control = source.choice(CONTROLS)
    for _ in range(many):
        way = source.random()
        if not running or (way < 0.2 and len(running) < most and begun < 5):
            history += (BEGIN,)
            running.append(begun)
            begun += 1
        elif way < 0.35:
            number = running.pop(source.randrange(len(running)))
            history += ((source.choice(["commit", "commit", "abort"]), number),)
        else:
            thing = ("did", source.choice(running)) + drawn.event(source, system)
            if source.random() > share or plain_controls.lets(control, system, history, thing):
                history += (thing,)
    return history


class Names(unittest.TestCase):
    def test_controls(self):
        self.assertEqual(CONTROLS, ("in place", "aside", "stamps", "cube", "orders"))
        self.assertIs(type(CONTROLS), tuple)


class HeldBack(unittest.TestCase):
    def told(self, system, history):
        return [held_back(control, system, history) for control in CONTROLS]

    def test_the_example(self):
        writes = (BEGIN, BEGIN, did(0, 0, "seta"), did(1, 0, "setb"))
        self.assertEqual(self.told((LETTER,), writes), [3, 3, None, 3, None])

    def test_no_answers(self):
        for history in ((), (BEGIN,), (BEGIN, BEGIN, ("commit", 0), ("abort", 1), BEGIN)):
            self.assertEqual(self.told((LETTER, PURSE), history), [None] * 5)

    def test_what_is_legal_nowhere(self):
        self.assertEqual(self.told((LINE,), (BEGIN, did(0, 0, "take", "a"))), [1] * 5)
        self.assertEqual(self.told((LETTER, LINE), (BEGIN, did(0, 0, "seta"), did(0, 1, "take", "b"))), [2] * 5)

    def test_own_events_do_not_bar(self):
        history = (BEGIN, did(0, 0, "seta"), did(0, 0, "setb"), did(0, 0, "read", "b"), did(0, 0, "seta"))
        self.assertEqual(self.told((LETTER,), history), [None] * 5)

    def test_events_of_closed_ones_do_not_bar(self):
        for word in ("commit", "abort"):
            history = (BEGIN, BEGIN, did(0, 0, "seta"), (word, 0), did(1, 0, "setb"), did(1, 0, "read", "b"))
            self.assertEqual(self.told((LETTER,), history), [None] * 5)

    def test_events_at_other_objects_do_not_bar(self):
        history = (BEGIN, BEGIN, did(0, 0, "seta"), did(1, 1, "setb"), did(1, 1, "read", "b"))
        self.assertEqual(self.told((LETTER, LETTER), history), [None] * 5)

    def test_in_place_sees_what_is_not_committed(self):
        # What another one has done is seen at once: here the table lets it, where it is the same word.
        history = (BEGIN, BEGIN, did(0, 0, "setb"), did(1, 0, "read", "b"))
        self.assertEqual(held_back("in place", (LETTER,), history), 3)
        shown = (BEGIN, BEGIN, did(0, 0, "add"), did(1, 0, "add"), did(0, 0, "add"))
        self.assertEqual(held_back("in place", (counter(2),), shown[:3]), None)
        self.assertEqual(held_back("in place", (counter(2),), shown), plain_controls.held_back("in place", (counter(2),), shown))

    def test_in_place_strikes_what_has_aborted(self):
        history = (BEGIN, BEGIN, did(0, 0, "setb"), ("abort", 0), did(1, 0, "read", "a"))
        self.assertIsNone(held_back("in place", (LETTER,), history))
        self.assertEqual(held_back("in place", (LETTER,), history[:-1] + (did(1, 0, "read", "b"),)), 4)

    def test_aside_sees_the_order_of_the_commits(self):
        # 1 commits ahead of 0, so a reader finds what 0 has set.
        history = (BEGIN, BEGIN, BEGIN, did(0, 0, "seta"), did(1, 0, "setb"), ("commit", 1), ("commit", 0))
        self.assertEqual(held_back("stamps", (LETTER,), history + (did(2, 0, "read", "a"),)), None)
        self.assertEqual(held_back("stamps", (LETTER,), history + (did(2, 0, "read", "b"),)), 7)
        turned = history[:5] + (("commit", 0), ("commit", 1))
        self.assertEqual(held_back("stamps", (LETTER,), turned + (did(2, 0, "read", "b"),)), None)
        self.assertEqual(held_back("stamps", (LETTER,), turned + (did(2, 0, "read", "a"),)), 7)

    def test_aside_does_not_see_what_is_not_committed(self):
        history = (BEGIN, BEGIN, did(0, 0, "puta"), did(1, 0, "take", "a"))
        self.assertEqual(held_back("aside", (LINE,), history), 3)
        self.assertEqual(held_back("aside", (LINE,), history[:3] + (("commit", 0),) + history[3:]), None)

    def test_the_cube_and_those_that_got_nothing_there(self):
        # 1 commits, but has got nothing at the object: its commit is nothing that others stand behind.
        history = (BEGIN, BEGIN, BEGIN, did(0, 0, "puta"), ("commit", 1), did(2, 0, "putb"))
        self.assertEqual(held_back("cube", (LINE,), history), 5)
        self.assertEqual(held_back("cube", (LINE,), history[:4] + (("abort", 1), ("commit", 0)) + history[5:]), None)
        # A commit comes to all objects, also behind answers at another one.
        history = (BEGIN, BEGIN, did(0, 0, "puta"), did(0, 1, "put1"), ("commit", 0), did(1, 0, "putb"), did(1, 1, "take1"))
        self.assertEqual(held_back("cube", (LINE, PURSE), history), None)

    def test_orders_look_at_the_whole(self):
        lights = (switch(), switch())
        history = (BEGIN, BEGIN, did(0, 0, "look", "off"), did(1, 1, "look", "off"), did(0, 1, "turn"), did(1, 0, "turn"))
        self.assertEqual(held_back("orders", lights, history), 5)
        self.assertEqual(held_back("orders", lights, history[:5]), None)

    def test_the_first_one_counts(self):
        history = (BEGIN, did(0, 0, "take", "a"), did(0, 0, "take", "b"), did(0, 0, "puta"))
        self.assertEqual(self.told((LINE,), history), [1] * 5)

    def test_the_first_greatest_safe_set(self):
        for seed in range(40):
            source = random.Random(seed)
            kind = small_kind(source)
            history = drawn_history(source, (kind,), 10)
            told = held_back("stamps", (kind,), history)
            self.assertEqual(told, plain_controls.held_back("stamps", (kind,), history), (kind.text, history))

    def test_drawn_histories(self):
        source = random.Random(1)
        found = {}
        for _ in range(600):
            system = tuple(small_kind(source) for _ in range(source.randrange(1, 4)))
            history = drawn_history(source, system, source.randrange(14))
            self.assertTrue(is_history(system, history))
            for control in CONTROLS:
                told = held_back(control, system, history)
                self.assertEqual(told, plain_controls.held_back(control, system, history), (control, history))
                found[control, told is None] = found.get((control, told is None), 0) + 1
        self.assertEqual(len(found), 10)
        self.assertGreater(min(found.values()), 50)

    def test_orders_are_what_is_sound(self):
        source = random.Random(2)
        for _ in range(200):
            system = tuple(small_kind(source) for _ in range(source.randrange(1, 4)))
            history = drawn_history(source, system, 12, share=0.5)
            found = unsound_at(system, history)
            self.assertEqual(held_back("orders", system, history), None if found is None else found[0])

    def test_long_histories(self):
        history = ()
        for number in range(40):
            word = "put1" if number % 2 == 0 else "take1"
            history += (BEGIN, did(number, 0, word), did(number, 1, "setb"), did(number, 1, "read", "b"), ("commit", number))
        self.assertEqual(len(history), 200)
        told = [held_back(control, (PURSE, LETTER), history) for control in CONTROLS[:4]]
        self.assertEqual(told, [None] * 4)
        wrong = history[:-1] + (did(39, 1, "read", "a"),)
        self.assertEqual([held_back(control, (PURSE, LETTER), wrong) for control in CONTROLS[:4]], [199] * 4)

    def test_the_history_stays_as_it_was(self):
        history = (BEGIN, did(0, 0, "puta"), ("commit", 0))
        self.told((LINE,), history)
        self.assertEqual(history, (BEGIN, did(0, 0, "puta"), ("commit", 0)))

    def test_by_name_and_position(self):
        history = (BEGIN, did(0, 0, "take", "a"))
        self.assertEqual(held_back(control="aside", system=(LINE,), history=history, most=5000), 1)
        self.assertEqual(held_back("aside", (LINE,), history), 1)


class Limits(unittest.TestCase):
    def most_sets(self, system, history):
        """The most sets that come behind an answer up to the first that the cube holds back."""
        found = 0
        stop = plain_controls.held_back("cube", system, history)
        for at, thing in enumerate(history):
            if thing[0] == "did" and (stop is None or at <= stop):
                kind = system[thing[2]]
                things = plain_controls.things_at(history[:at + 1], thing[2])
                if plain_alone.is_sound_now(kind, things):
                    for outcome in plain_alone.outcomes(things):
                        states = plain_alone.reaches(kind, things, outcome)
                        found = max(found, len(plain_alone.plain_joint.coming(kind, states)))
        return found

    def test_the_cube_alone(self):
        history = (BEGIN, did(0, 0, "setb"))
        for control in CONTROLS:
            if control == "cube":
                with self.assertRaises(TooMany) as caught:
                    held_back(control, (LETTER,), history, most=1)
                self.assertEqual(caught.exception.most, 1)
            else:
                self.assertIsNone(held_back(control, (LETTER,), history, most=1))
        self.assertIsNone(held_back("cube", (LETTER,), history, most=2))

    def test_other_answers_are_not_looked_at(self):
        # The answer is not sound alone, so nothing is reached.
        history = (BEGIN, BEGIN, did(0, 0, "next", "2"))
        self.assertEqual(held_back("cube", (tickets(9),), history, most=1), 2)
        # Behind the one that is held back nothing is looked at.
        history = (BEGIN, did(0, 1, "take", "a"), did(0, 0, "setb"))
        self.assertEqual(held_back("cube", (LETTER, LINE), history, most=1), 1)

    def test_drawn_histories(self):
        source = random.Random(3)
        raised = 0
        for _ in range(250):
            system = tuple(small_kind(source) for _ in range(source.randrange(1, 3)))
            history = drawn_history(source, system, source.randrange(10))
            most = self.most_sets(system, history)
            wanted = plain_controls.held_back("cube", system, history)
            self.assertEqual(held_back("cube", system, history, most=max(most, 1)), wanted)
            if most > 1:
                with self.assertRaises(TooMany):
                    held_back("cube", system, history, most=most - 1)
                raised += 1
        self.assertGreater(raised, 100)

    def test_orders_look_at_any_number_of_nodes(self):
        history = (BEGIN,) * 10 + tuple(did(number, 0, "set" + "abcdefghij"[number]) for number in range(10))
        letters = (cell(*"abcdefghij"),)
        self.assertIsNone(held_back("orders", letters, history, most=1))
        self.assertEqual(held_back("orders", letters, history + (did(3, 0, "read", "a"),)), 20)
        self.assertIsNone(held_back("orders", letters, history + (did(3, 0, "read", "d"),), most=1))


class Within(unittest.TestCase):
    """The last sentences of [29]: one control within another."""

    def check(self, one, other, seed, fits=lambda kind: True):
        source = random.Random(seed)
        let = 0
        for _ in range(400):
            kind = small_kind(source)
            if not fits(kind):
                continue
            history, running, begun = (), [], 0
            for _ in range(12):
                way = source.random()
                if not running or (way < 0.25 and len(running) < 3):
                    history += (BEGIN,)
                    running.append(begun)
                    begun += 1
                elif way < 0.4:
                    number = running.pop(source.randrange(len(running)))
                    history += ((source.choice(["commit", "commit", "abort"]), number),)
                else:
                    thing = did(source.choice(running), 0, *source.choice(kind.events))
                    if held_back(one, (kind,), history + (thing,)) is None:
                        history += (thing,)
                        let += 1
            self.assertIsNone(held_back(other, (kind,), history), (one, other, kind.text, history))
        self.assertGreater(let, 400)

    def answers_always(self, kind):
        return all(kind.answers(state, operation) for state in range(len(kind)) for operation in kind.operations)

    def test_aside_within_the_cube(self):
        self.check("aside", "cube", 4)

    def test_in_place_within_the_cube(self):
        self.check("in place", "cube", 5, self.answers_always)

    def test_a_kind_by_hand_whose_states_do_not_always_answer(self):
        # At state 1 nobody may go: what is let in place is looked at word by word there.
        kind = Kind((("go", "on", 1), ("stay", "on", 0)), (("back", "on", 0), ("stay", "on", 1)))
        self.assertFalse(self.answers_always(kind))
        source = random.Random(6)
        for _ in range(200):
            history = drawn_history(source, (kind,), 12)
            for control in ("in place", "cube"):
                told = held_back(control, (kind,), history)
                self.assertEqual(told, plain_controls.held_back(control, (kind,), history))

    def test_within_orders(self):
        for at, control in enumerate(("in place", "cube", "stamps", "aside")):
            self.check(control, "orders", 7 + at)

    def test_several_objects_within_orders(self):
        source = random.Random(11)
        kinds = (account(2, 1), cell("a", "b"), permits(2), pool(2, "a", "b"), queue(2, "a", "b"), counter(2))
        for _ in range(150):
            system = tuple(source.choice(kinds) for _ in range(source.randrange(2, 4)))
            control = source.choice(CONTROLS[:4])
            history = (BEGIN, BEGIN, BEGIN)
            for _ in range(12):
                thing = ("did", source.randrange(3)) + drawn.event(source, system)
                if held_back(control, system, history + (thing,)) is None:
                    history += (thing,)
            self.assertIsNone(held_back("orders", system, history), (control, history))


if __name__ == "__main__":
    unittest.main()
