"""Promise [22]: joint sets of states, and certificates for and against."""

import itertools
import random
import unittest

import plain
import plainly
from mustwait.builders import account, cell, permits, pool, queue, stack, switch
from mustwait.errors import TooMany
from mustwait.joint import joint, joint_holds
from mustwait.kinds import MOST, Kind
from plain_joint import all_sets, answered, coming, joint_sets, led
from values import ANY_VALUES, changed, copied, random_states

LINE, PURSE = queue(2, "a", "b"), account(2, 1)


def is_set(kind, thing):
    return thing != () and plainly.is_numbers(thing, range(len(kind.states)))


def says_certificate(kind, states, thing):
    """What the document says of certificates, word by word."""
    if not plainly.is_tuple(thing, 2) or not plainly.is_tuple(thing[1]):
        return False
    if plainly.same(thing[0], "joint"):
        return says_joint(kind, states, thing[1])
    return plainly.same(thing[0], "split") and says_split(kind, states, thing[1])


def says_joint(kind, states, choices):
    for part in choices:
        if not plainly.is_tuple(part, 3) or not is_set(kind, part[0]) or type(part[1]) is not str or type(part[2]) is not str:
            return False
    if not plainly.ascending(choices):
        return False
    come = {states}
    while True:
        goals = {led(kind, part[0], part[1:]) for part in choices if part[0] in come} - {None}
        if goals <= come:
            break
        come |= goals
    wanted = sorted((one, operation) for one in come for operation in answered(kind, one))
    if sorted(part[:2] for part in choices) != wanted:
        return False
    return all(led(kind, part[0], part[1:]) is not None for part in choices)


def says_split(kind, states, steps):
    done = []
    for part in steps:
        if not plainly.is_tuple(part, 2) or not is_set(kind, part[0]) or type(part[1]) is not str:
            return False
        if part[0] in done or part[1] not in answered(kind, part[0]):
            return False
        goals = {led(kind, part[0], event) for event in kind.events if event[0] == part[1]} - {None}
        if not goals <= set(done):
            return False
        done.append(part[0])
    return done != [] and done[-1] == states


def cycles(*lengths):
    """Rings beside one another: just where all of them are at their beginning there is an operation without answer."""
    states = []
    for ring, length in enumerate(lengths):
        first = len(states)
        for at in range(length):
            row = [("go", "ok", first + (at + 1) % length)]
            states.append(tuple(row + ([("see", f"a{ring}", first)] if at == 0 else [])))
    return Kind(*states)


class Joint(unittest.TestCase):
    def check(self, kind, states, thing, wanted=None):
        says = says_certificate(kind, states, thing)
        if wanted is not None:
            self.assertIs(says, wanted)
        before = copied(thing)
        self.assertIs(joint_holds(kind, states, thing), says, thing)
        self.assertEqual(thing, before)
        return says

    def word(self, kind, states):
        found = joint(kind, states)
        self.check(kind, states, found, True)
        return found[0]


class Making(Joint):
    def test_one_state(self):
        for kind in (LINE, PURSE, switch(), pool(2, "a", "b"), cell("a", "b"), Kind(())):
            for state in range(len(kind)):
                self.assertEqual(self.word(kind, (state,)), "joint")

    def test_ordinary(self):
        self.assertEqual(joint(LINE, (4, 5)), ("split", (((4, 5), "take"),)))
        self.assertEqual(self.word(LINE, (0, 1)), "split")
        self.assertEqual(self.word(PURSE, (0, 1)), "split")
        self.assertEqual(self.word(permits(2), (0, 1, 2)), "joint")
        self.assertEqual(self.word(stack(2, "a", "b"), (1, 2)), "split")
        self.assertEqual(joint(Kind((), ()), (0, 1)), ("joint", ()))

    def test_no_answer_at_some_state(self):
        # What one state does not answer need not be answered as one.
        kind = Kind((("see", "one", 0),), (), (("see", "two", 2),))
        self.assertEqual(joint(kind, (0, 1)), ("joint", ()))
        self.assertEqual(joint(kind, (0, 2)), ("split", (((0, 2), "see"),)))

    def test_an_answer_that_leads_astray(self):
        kind = Kind((("go", "far", 2), ("go", "near", 0)), (("go", "far", 3), ("go", "near", 1)), (("see", "one", 2),), (("see", "two", 3),))
        self.assertEqual(joint(kind, (0, 1)), ("joint", (((0, 1), "go", "near"),)))
        kind = Kind(kind.states[0][:1], kind.states[1], *kind.states[2:])
        self.assertEqual(joint(kind, (0, 1)), ("split", (((2, 3), "see"), ((0, 1), "go"))))

    def test_several_sets(self):
        kind = Kind((("go", "ok", 1), ("see", "on", 0)), (("go", "ok", 0), ("see", "on", 1)), (("go", "ok", 2), ("see", "on", 2)))
        self.assertEqual(joint(kind, (0, 2)), ("joint", (
            ((0, 2), "go", "ok"), ((0, 2), "see", "on"), ((1, 2), "go", "ok"), ((1, 2), "see", "on"),
        )))

    def test_drawn(self):
        source = random.Random(221)
        words = []
        for _ in range(150):
            kind = Kind.of(random_states(source, source.randrange(1, 5), source.sample("abc", source.randrange(1, 4)), source.choice([0.3, 0.5, 0.7, 0.9])))
            family = joint_sets(kind)
            for states in all_sets(kind):
                self.assertEqual(self.word(kind, states), "joint" if states in family else "split")
                words.append(states in family and len(states) > 1)
        self.assertGreater(words.count(True), 100)
        self.assertGreater(words.count(False), 100)

    def test_thousands_of_sets(self):
        kind = cycles(2, 3, 5, 7, 11)
        states = (1, 3, 6, 11, 18)
        found = joint(kind, states)
        self.assertEqual((found[0], len(found[1])), ("split", 2310))
        self.assertEqual(found[1][0], ((0, 2, 5, 10, 17), "see"))
        self.assertIs(joint_holds(kind, states, found), True)
        self.assertIs(joint_holds(kind, states, (found[0], found[1][1:])), False)
        self.assertIs(joint_holds(kind, states, (found[0], found[1][:-1])), False)

    def test_as_many_sets_as_may_be(self):
        kind = cycles(3, 5, 7, 11, 13)
        states = (1, 4, 9, 16, 27)
        found = joint(kind, states, most=20000)
        self.assertEqual((found[0], len(found[1])), ("split", 15015))
        self.assertIs(joint_holds(kind, states, found), True)
        with self.assertRaises(TooMany):
            joint(kind, states)

    def test_by_name(self):
        found = joint(most=9, states=(4, 5), kind=LINE)
        self.assertIs(joint_holds(thing=found, states=(4, 5), kind=LINE), True)


class Limits(Joint):
    def just_at(self, kind, states, many):
        self.check(kind, states, joint(kind, states, most=many), True)
        if many > 1:
            with self.assertRaises(TooMany) as caught:
                joint(kind, states, most=many - 1)
            self.assertEqual(caught.exception.most, many - 1)

    def test_all_sets_that_come_count(self):
        # Not just those of a certificate: here also what comes behind the answer that is not chosen.
        kind = Kind((("go", "far", 2), ("go", "near", 0)), (("go", "far", 3), ("go", "near", 1)), (("see", "one", 2),), (("see", "two", 3),))
        self.just_at(kind, (0, 1), 2)
        self.just_at(LINE, (4, 5), 1)
        self.just_at(cycles(2, 3, 5), (1, 3, 6), 30)

    def test_the_default(self):
        self.assertEqual(MOST, 5000)
        kind = cycles(5, 7, 11, 13)
        self.assertEqual(len(coming(kind, (1, 6, 13, 24))), 5005)
        with self.assertRaises(TooMany) as caught:
            joint(kind, (1, 6, 13, 24))
        self.assertEqual(caught.exception.most, 5000)
        self.assertEqual(joint(kind, (1, 6, 13, 24), most=5005)[0], "split")

    def test_drawn(self):
        source = random.Random(222)
        for _ in range(100):
            kind = Kind.of(random_states(source, source.randrange(1, 6), source.sample("abc", source.randrange(1, 4)), 0.8))
            for states in source.sample(all_sets(kind), 1):
                self.just_at(kind, states, len(coming(kind, states)))


class Holding(Joint):
    RING = Kind((("go", "ok", 1), ("see", "on", 0)), (("go", "ok", 0), ("see", "on", 1)), (("go", "ok", 2), ("see", "on", 2)))
    CHAIN = Kind((("go", "far", 2),), (("go", "far", 3),), (("see", "one", 2),), (("see", "two", 3),))

    def test_joint(self):
        states = (0, 2)
        word, choices = joint(self.RING, states)
        self.check(self.RING, states, (word, choices), True)
        for at in range(len(choices)):
            self.check(self.RING, states, (word, choices[:at] + choices[at + 1:]), False)
            self.check(self.RING, states, (word, choices[:at] + choices[at:at + 1] + choices[at:]), False)
            self.check(self.RING, states, (word, choices[at:] + choices[:at]), at == 0)
            self.check(self.RING, states, (word, choices[:at] + (list(choices[at]),) + choices[at + 1:]), False)
        self.check(self.RING, states, (word, choices + (((2,), "go", "ok"),)), False)
        self.check(self.RING, states, (word, (((0, 1), "go", "ok"),) + choices), False)
        self.check(self.RING, (1, 2), (word, choices), True)
        self.check(self.RING, (0, 1), (word, choices), False)
        self.check(self.RING, (0, 1, 2), (word, choices), False)

    def test_answers_that_not_all_states_have(self):
        kind = Kind((("go", "a", 0), ("go", "b", 0)), (("go", "b", 1), ("go", "c", 1)))
        self.check(kind, (0, 1), ("joint", (((0, 1), "go", "b"),)), True)
        for word in "acd":
            self.check(kind, (0, 1), ("joint", (((0, 1), "go", word),)), False)
        self.check(kind, (0, 1), ("joint", (((0, 1), "go", "a"), ((0, 1), "go", "b"))), False)
        self.check(kind, (0,), ("joint", (((0,), "go", "a"),)), True)

    def test_any_choice(self):
        kind = Kind((("go", "a", 1), ("go", "b", 0)), (("go", "a", 1), ("go", "b", 0)))
        for one, other in itertools.product("ab", repeat=2):
            choices = tuple(sorted({((0,), "go", one), ((1,), "go", other)}))
            self.check(kind, (0,), ("joint", choices), one == "a")
        self.check(kind, (0,), ("joint", (((0,), "go", "b"),)), True)

    def test_split(self):
        states = (0, 1)
        word, steps = joint(self.CHAIN, states)
        self.assertEqual(steps, (((2, 3), "see"), ((0, 1), "go")))
        self.check(self.CHAIN, (2, 3), (word, steps[:1]), True)
        self.check(self.CHAIN, states, (word, steps[:1]), False)
        self.check(self.CHAIN, states, (word, steps[1:]), False)
        self.check(self.CHAIN, states, (word, steps[::-1]), False)
        self.check(self.CHAIN, states, (word, steps[:1] + steps), False)
        self.check(self.CHAIN, states, (word, steps + steps[:1]), False)
        self.check(self.CHAIN, states, (word, ()), False)
        self.check(self.CHAIN, (2, 3), (word, steps), False)
        for operation in ("see", "far", "", "ok", None, ["go"], 0):
            self.check(self.CHAIN, states, (word, steps[:1] + (((0, 1), operation),)), False)

    def test_further_steps(self):
        # A step that nothing needs is no harm, as long as it is right.
        kind = Kind(*self.CHAIN.states, (("see", "three", 4),))
        steps = (((2, 3), "see"), ((2, 4), "see"), ((0, 1), "go"))
        self.check(kind, (0, 1), ("split", steps), True)
        self.check(kind, (0, 1), ("split", (((3, 4), "go"),) + steps), False)
        self.check(kind, (0, 1), ("split", (((4,), "see"),) + steps), False)
        self.check(kind, (0, 1), ("split", (((4, 2), "see"),) + steps), False)
        self.check(kind, (0, 1), ("split", (((2, 5), "see"),) + steps), False)

    def test_words(self):
        for word in ("Joint", "split", "", None, 0, ("joint",), ["joint"]):
            self.check(self.RING, (0, 2), (word, joint(self.RING, (0, 2))[1]), False)
        self.check(LINE, (4, 5), ("joint", joint(LINE, (4, 5))[1]), False)
        self.check(Kind(()), (0,), ("joint", ()), True)
        self.check(Kind(()), (0,), ("split", ()), False)

    def test_shapes(self):
        for kind, states in ((self.RING, (0, 2)), (self.CHAIN, (0, 1))):
            found = joint(kind, states)
            for thing in (found[:1], found[1:], found + ((),), list(found), found[::-1], (), None, (found[0], list(found[1]))):
                self.check(kind, states, thing, False)
            for thing in ANY_VALUES:
                self.check(kind, states, thing, False)
                self.check(kind, states, (found[0], thing), False)
                self.check(kind, states, (found[0], found[1] + (thing,)), False)
                self.check(kind, states, (found[0], (thing,) + found[1]), False)
                part = found[1][0]
                for at in range(len(part)):
                    self.check(kind, states, (found[0], (part[:at] + (thing,) + part[at + 1:],) + found[1][1:]), False)

    def test_bools_in_the_place_of_numbers(self):
        self.check(self.CHAIN, (0, 1), ("split", (((2, 3), "see"), ((0, True), "go"))), False)
        self.check(self.CHAIN, (0, 1), ("split", (((2, 3), "see"), ((False, 1), "go"))), False)
        kind = Kind((("go", "ok", 1),), (("go", "ok", 0),))
        self.check(kind, (0, 1), ("joint", (((0, 1), "go", "ok"),)), True)
        self.check(kind, (0, 1), ("joint", (((0, True), "go", "ok"),)), False)

    def test_changed(self):
        source = random.Random(223)
        found = {True: 0, False: 0}
        for _ in range(400):
            kind = Kind.of(random_states(source, source.randrange(1, 6), source.sample("abc", source.randrange(1, 4)), source.choice([0.4, 0.7, 0.9])))
            states = source.choice(all_sets(kind))
            thing = joint(kind, states)
            for _ in range(8):
                other = changed(source, thing)
                found[self.check(kind, states, other)] += 1
                self.check(kind, source.choice(all_sets(kind)), thing)
        self.assertGreater(found[True], 20)
