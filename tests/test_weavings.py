"""Promise [30]: programs, their weavings, and how many of them a control lets."""

import random
import unittest

import drawn
import plain_alone
import plain_controls
from mustwait.builders import account, cell, permits, pool, queue, tickets
from mustwait.controls import CONTROLS
from mustwait.counts import weavings
from mustwait.errors import TooMany

LETTER, LINE, PURSE = cell("a", "b"), queue(2, "a", "b"), account(2, 1)


def small_kind(source):
    while True:
        kind = drawn.kind_with_events(source)
        if len(kind.events) <= 6:
            return kind


def drawn_programs(source, system, most=3):
    programs = []
    for _ in range(source.randrange(1, most + 1)):
        places = [source.randrange(len(system)) for _ in range(source.randrange(3))]
        programs.append(tuple((place, source.choice(system[place].operations)) for place in places))
    return tuple(programs)


class Weavings(unittest.TestCase):
    def check(self, system, programs):
        for control in CONTROLS:
            told = weavings(system, programs, control)
            self.assertEqual(told, plain_controls.weavings(system, programs, control), (control, programs))
            self.assertIs(type(told), tuple)

    def test_the_example(self):
        puts = (((0, "puta"),), ((0, "putb"),))
        self.assertEqual([weavings((LINE,), puts, control) for control in ("cube", "orders")], [(6, 2), (6, 6)])

    def test_one_program(self):
        for control in CONTROLS:
            self.assertEqual(weavings((LINE,), (((0, "puta"), (0, "take")),), control), (1, 1))
            self.assertEqual(weavings((LINE,), (((0, "take"), (0, "puta")),), control), (1, 0))

    def test_no_operations(self):
        for control in CONTROLS:
            self.assertEqual(weavings((LINE,), ((),), control), (1, 1))
            self.assertEqual(weavings((LINE,), ((), ()), control), (2, 2))
            self.assertEqual(weavings((LINE,), ((), (), (), ()), control), (24, 24))
            self.assertEqual(weavings((LINE,), ((), ((0, "puta"),)), control), (3, 3))

    def test_equal_programs(self):
        add = ((0, "put1"),)
        self.check((account(4, 1),), (add, add, add))
        self.check((LETTER,), (((0, "read"), (0, "seta")),) * 2)

    def test_an_operation_without_answer(self):
        self.check((LINE,), (((0, "take"),), ((0, "puta"),)))
        self.assertEqual(weavings((permits(1),), (((0, "get"),), ((0, "get"),)), "orders"), (6, 0))

    def test_the_first_answer_is_given(self):
        # Of a and b in the pool the first take gets a; who wants a read of what is left gets b.
        bag = pool(2, "a", "b")
        self.check((bag,), (((0, "puta"), (0, "putb"), (0, "take"), (0, "take")),))
        self.check((bag,), (((0, "puta"), (0, "putb")), ((0, "take"),)))

    def test_several_objects(self):
        self.check((LETTER, PURSE), (((0, "setb"), (1, "put1")), ((1, "take1"), (0, "read"))))

    def test_drawn_programs(self):
        source = random.Random(1)
        looked = 0
        while looked < 200:
            system = tuple(small_kind(source) for _ in range(source.randrange(1, 3)))
            programs = drawn_programs(source, system)
            if len(plain_controls.walks(programs)) <= 90:
                self.check(system, programs)
                looked += 1

    def test_four_programs(self):
        self.check((PURSE,), (((0, "put1"),), (), ((0, "take1"),), ()))

    def test_many_weavings(self):
        bank = account(9, 1)
        for programs, many in (
            ((((0, "put1"),) * 5,) * 2, 924),
            ((((0, "put1"),) * 2, ((0, "put1"),) * 2, ((0, "take1"),) * 2), 1680),
            ((((0, "put1"),) * 12, ((0, "take1"),) * 2), 560),
            ((((0, "put1"),), ((0, "put1"),), ((0, "take1"),), ()), 630),
        ):
            for control in CONTROLS:
                told = weavings((bank,), programs, control)
                self.assertEqual(told[0], many)
                self.assertLessEqual(told[1], many)
        self.assertEqual(weavings((account(9, 1),), (((0, "put1"),) * 4,) * 2, "orders"), (252, 252))

    def test_too_many(self):
        source = random.Random(2)
        raised = 0
        for _ in range(150):
            system = (small_kind(source),)
            programs = drawn_programs(source, system, 2)
            if len(plain_controls.walks(programs)) > 60:
                continue
            most = max(self.most_sets(system, programs), 1)
            self.assertEqual(
                weavings(system, programs, "cube", most=most), plain_controls.weavings(system, programs, "cube")
            )
            if most > 1:
                with self.assertRaises(TooMany) as caught:
                    weavings(system, programs, "cube", most=most - 1)
                self.assertEqual(caught.exception.most, most - 1)
                raised += 1
            for control in ("in place", "aside", "stamps", "orders"):
                weavings(system, programs, control, most=1)
        self.assertGreater(raised, 40)

    def most_sets(self, system, programs):
        """The most sets that come behind the possible answers up to the first that the cube lets, in any weaving."""
        found = 0
        for walk in plain_controls.walks(programs):
            history = (("begin",),) * len(programs)
            for at, number in enumerate(walk):
                step = walk[:at].count(number)
                if step == len(programs[number]):
                    history += (("commit", number),)
                    continue
                answer, most = self.step(system, history, number, *programs[number][step])
                found = max(found, most)
                if answer is None:
                    break
                history += (("did", number) + programs[number][step] + (answer,),)
        return found

    def step(self, system, history, number, place, operation):
        kind = system[place]
        found = 0
        for answer in plain_alone.possible(kind, operation):
            things = plain_controls.things_at(history + (("did", number, place, operation, answer),), place)
            if plain_alone.is_sound_now(kind, things):
                for outcome in plain_alone.outcomes(things):
                    states = plain_alone.reaches(kind, things, outcome)
                    found = max(found, len(plain_alone.plain_joint.coming(kind, states)))
            if plain_controls.lets("cube", system, history, ("did", number, place, operation, answer)):
                return answer, found
        return None, found

    def test_too_many_counts_answers_up_to_the_first_that_is_let(self):
        # The first answer is legal nowhere here, so that the second one is looked at; a third one is not.
        self.assertEqual(weavings((tickets(2),), (((0, "next"),),), "cube", most=3), (1, 1))
        with self.assertRaises(TooMany):
            weavings((tickets(2),), (((0, "next"),),), "cube", most=2)

    def test_the_programs_stay_as_they_were(self):
        programs = (((0, "puta"),), ((0, "putb"),))
        weavings(system=(LINE,), programs=programs, control="cube", most=5000)
        self.assertEqual(programs, (((0, "puta"),), ((0, "putb"),)))


if __name__ == "__main__":
    unittest.main()
