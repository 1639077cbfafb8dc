"""Promise [12]: stories, made and held against the log."""

import random
import unittest

import drawn
import plain
import plainly
from mustwait.builders import account, cell, permits, queue, switch
from mustwait.kinds import Kind
from mustwait.stories import story, story_holds
from mustwait.wishes import status
from values import ANY_VALUES, changed, copied

LETTER, PURSE, LINE = cell("a", "b"), account(2, 1), queue(2, "a", "b")
SHOP = (LETTER, PURSE)
MANY = 10 ** 9


def opened(number, *row, earlier=()):
    return (number, False, earlier, row)


def done(number, *row, earlier=()):
    return (number, True, earlier, row)


SETB, SETA, READA, READB = (0, "setb", "ok"), (0, "seta", "ok"), (0, "read", "a"), (0, "read", "b")
PUT, TAKE = (1, "put1", "ok"), (1, "take1", "ok")
# 1 has committed; 2 wishes to take; 3 began behind 1; 4 has put something in.
LOG = (((0, 0), (1, 1)), (done(1, SETB), opened(2, READA), opened(3, READB, earlier=(1,)), opened(4, PUT)))
WISH = (2, 1, "take1")


class Making(unittest.TestCase):
    def check(self, system, log, wish, wanted):
        before = copied((log, wish))
        found = story(system, log, wish, most=MANY)
        self.assertEqual((log, wish), before)
        self.assertIs(found is not None, wanted)
        if wanted:
            self.assertTrue(plainly.story_holds(system, log, wish, found), found)
            self.assertIs(story_holds(system, log, wish, found), True)
        return found

    def test_whatever_the_status(self):
        log = (((0,),), (opened(0),))
        self.check((PURSE,), log, (0, 0, "take1"), True)
        self.check((LINE,), log, (0, 0, "take"), True)
        log = (((0,),), (opened(0), opened(1, (0, "puta", "ok"))))
        self.assertEqual(status((LINE,), log, (0, 0, "take")), "waits")
        self.check((LINE,), log, (0, 0, "take"), True)

    def test_none(self):
        log = (((0, 0),), (done(0, (0, "turn", "ok")), opened(1, (0, "look", "off"), (1, "look", "off")),
                           done(2, (1, "look", "off"), (1, "turn", "ok"), earlier=(0,))))
        system = (switch(), switch())
        self.check(system, log, (1, 0, "turn"), True)
        self.check(system, (log[0], (*log[1], opened(3, earlier=(0, 2)))), (3, 0, "look"), True)
        log = (((0, 0),), (done(0, (0, "look", "off"), (1, "turn", "ok")), opened(1, (1, "look", "off"))))
        self.check(system, log, (1, 0, "turn"), False)

    def test_one_that_needs_another_open_one(self):
        kind = Kind((("arm", "ok", 1),), (("arm", "ok", 1), ("see", "ok", 1)))
        system = (kind, switch())
        log = (((0, 0),), (done(1, (1, "turn", "ok")), opened(2, (1, "look", "off")), opened(3)))
        found = self.check(system, log, (2, 0, "see"), True)
        self.assertEqual(found[1], (
            (3, ((0, "arm", "ok"),)), (2, ((1, "look", "off"), (0, "see", "ok"))), (1, ((1, "turn", "ok"),)),
        ))
        self.check(system, (log[0], log[1][:2]), (2, 0, "see"), False)

    def test_one_that_needs_transactions_to_come(self):
        log = (((0,),), (done(1), opened(2, earlier=(1,))))
        found = self.check((LINE,), log, (2, 0, "take"), True)
        self.assertEqual([step[0] for step in found[1]], [1, None, 2])
        self.assertEqual(len(found[1][1][1]), 1)

    def test_long_ways(self):
        # Only at the end of a long way there is what is asked for.
        rows = [(("go", "ok", state + 1),) for state in range(39)] + [(("see", "ok", 39),)]
        log = (((0, 0),), (opened(0), opened(1, (1, "seta", "ok"))))
        found = self.check((Kind(*rows), LETTER), log, (0, 0, "see"), True)
        goes = [part for _, row in found[1] for part in row if part == (0, "go", "ok")]
        self.assertEqual(len(goes), 39)

    def test_drawn(self):
        source = random.Random(121)
        found = {True: 0, False: 0}
        sorts = []
        for _ in range(500):
            system = drawn.system(source, 3)
            log = drawn.fine_log(source, system)
            wish = drawn.wish(source, system, log)
            wanted = plain.has_story(system, log, wish)
            self.check(system, log, wish, wanted)
            sorts.append((wanted, status(system, log, wish, most=MANY)))
            found[wanted] += 1
        self.assertGreater(min(found.values()), 20)
        # Never answered is just what has no story.
        self.assertEqual({sort for sort in sorts if not sort[0]}, {(False, "never")})
        self.assertNotIn((True, "never"), sorts)

    def test_by_name(self):
        log = (((0,),), (opened(0),))
        found = story(most=50, wish=(0, 0, "take"), log=log, system=(LINE,))
        self.assertIs(story_holds(thing=found, wish=(0, 0, "take"), log=log, system=(LINE,)), True)


class Holding(unittest.TestCase):
    def yes(self, *steps, start=(0, 0)):
        self.check(True, (start, steps))

    def no(self, *steps, start=(0, 0)):
        self.check(False, (start, steps))

    def check(self, wanted, thing):
        before = copied(thing)
        self.assertIs(story_holds(SHOP, LOG, WISH, thing), wanted, thing)
        self.assertIs(plainly.story_holds(SHOP, LOG, WISH, thing), wanted)
        self.assertEqual(thing, before)

    ONE = (1, (SETB,))
    TWO = (2, (READA, (1, "take1", "no")))
    RICH = (2, (READA, TAKE))
    THREE = (3, (READB,))
    FOUR = (4, (PUT,))

    def test_ordinary(self):
        self.yes(self.TWO, self.ONE)
        self.yes(self.TWO, self.FOUR, self.ONE, self.THREE)
        self.yes(self.FOUR, self.RICH, self.ONE, self.THREE)
        self.yes(self.ONE, (None, (SETA,)), self.TWO)
        self.yes(self.ONE, (None, (SETA, PUT)), (None, (SETA,)), self.RICH, (None, (SETB,)))

    def test_starts(self):
        self.yes(self.ONE, (None, (SETA,)), self.RICH, start=(1, 1))
        self.no(self.RICH, self.ONE, start=(1, 1))
        for start in ((0, 1), (1, 0), (0,), (0, 0, 0), (), (False, 0), (0, False), [0, 0], None, 0, ("0", 0), (-1, 0)):
            self.no(self.TWO, self.ONE, start=start)

    def test_longer_rows_of_other_open_ones(self):
        self.yes((4, (PUT, SETA)), self.RICH, self.ONE)
        self.yes(self.TWO, self.ONE, (3, (READB, PUT, SETA)))
        self.no((4, (SETA, PUT)), self.RICH, self.ONE)
        self.no((4, (SETA,)), self.TWO, self.ONE)
        self.no((4, ()), self.TWO, self.ONE)
        self.no((4, (PUT, TAKE, TAKE)), self.TWO, self.ONE)

    def test_steps_left_out(self):
        self.no()
        self.no(self.ONE)
        self.no(self.TWO)
        self.no(self.FOUR, self.RICH)

    def test_steps_twice(self):
        self.no(self.TWO, self.ONE, self.ONE)
        self.no(self.TWO, self.TWO, self.ONE)
        self.no(self.TWO, self.FOUR, self.FOUR, self.ONE)
        self.yes(self.ONE, (None, (SETA,)), (None, (SETA,)), self.TWO)

    def test_steps_exchanged(self):
        self.no(self.ONE, self.TWO)
        self.no(self.RICH, self.FOUR, self.ONE)

    def test_an_entry_ahead_of_one_before_it(self):
        self.no((3, (READB,)), self.ONE, (None, (SETA,)), self.TWO)
        log = (((0, 0),), (done(1), opened(2), opened(3, earlier=(1,))))
        wish = (2, 1, "take1")
        asked = (2, ((1, "take1", "no"),))
        self.assertIs(story_holds(SHOP, log, wish, ((0, 0), ((1, ()), (3, ()), asked))), True)
        self.assertIs(story_holds(SHOP, log, wish, ((0, 0), ((3, ()), (1, ()), asked))), False)
        self.assertIs(story_holds(SHOP, log, wish, ((0, 0), (asked, (1, ())))), True)
        log = (((0, 0),), (done(1), opened(2, earlier=(1,))))
        self.assertIs(story_holds(SHOP, log, wish, ((0, 0), (asked, (1, ())))), False)
        self.assertIs(story_holds(SHOP, log, wish, ((0, 0), ((1, ()), asked))), True)

    def test_a_committed_entry_with_another_row(self):
        for row in ((), (SETB, SETB), (SETA,), (SETB, PUT), ((0, "setb", "ok"), READB), (SETA, SETB)):
            self.no(self.TWO, (1, row))

    def test_the_wish_itself(self):
        for row in (
            (), (READA,), (READA, (1, "put1", "ok")), (READA, (0, "read", "a")), (READA, (1, "take1", "no"), SETA),
            ((1, "take1", "no"),), ((1, "take1", "no"), READA), (READA, SETA, (1, "take1", "no")), (READA, READA, TAKE),
            (READA, (1, "take1", "no"), (1, "take1", "no")), (READA, (0, "take1", "no")),
        ):
            self.no((2, row), self.ONE)

    def test_transactions_to_come(self):
        self.no((None, (SETA,)), self.TWO, self.ONE)
        self.no(self.TWO, (None, (PUT,)), self.ONE)
        self.yes(self.TWO, self.ONE, (None, (PUT,)))
        self.no(self.TWO, self.ONE, (None, ()))
        self.no(self.TWO, self.ONE, (None, (PUT,)), (None, ()))
        self.no(self.TWO, self.ONE, (None, (TAKE,)))
        self.no(self.TWO, self.ONE, (None, ((1, "look", "off"),)))

    def test_numbers(self):
        for number in (0, 5, -1, True, False, "4", (4,), [4], {}, 10 ** 39, ""):
            self.no(self.TWO, self.ONE, (number, (PUT,)))

    def test_bools_and_others_in_the_place_of_numbers(self):
        for row in (((False, "setb", "ok"),), ((0, "setb", "ok", 0),), ((0, "setb"),), [(0, "setb", "ok")], ([0, "setb", "ok"],)):
            self.no(self.TWO, (1, row))
        self.no(self.TWO, (True, (SETB,)))
        self.no((2, (READA, (True, "take1", "no"))), self.ONE)
        self.no((2, ((False, "read", "a"), (1, "take1", "no"))), self.ONE)
        self.no(self.TWO, self.ONE, (None, ((True, "put1", "ok"),)))
        self.no(self.TWO, self.ONE, (None, ((2, "put1", "ok"),)))
        self.no(self.TWO, self.ONE, (None, (("put1", "ok"),)))

    def test_events_that_are_not_legal(self):
        self.no(self.RICH, self.ONE)
        self.no(self.TWO, self.ONE, (None, (READA,)))
        self.no((4, (PUT, PUT, PUT)), self.RICH, self.ONE)
        self.yes((4, (PUT, PUT, (1, "put1", "full"))), self.RICH, self.ONE)

    def test_shapes(self):
        good = ((0, 0), (self.TWO, self.ONE))
        self.check(True, good)
        for thing in (good[:1], good + ((),), list(good), (good[0], list(good[1])), good[1], (), None, "", {}, 0, good[::-1]):
            self.check(False, thing)
        for step in ((), (1,), (1, (SETB,), ()), [1, (SETB,)], None, 1, {}, (None,), (None, None), (None, [PUT]), (None, "")):
            self.no(self.TWO, step)
            self.no(self.TWO, self.ONE, step)

    def test_any_values(self):
        for thing in ANY_VALUES:
            for value in (
                thing, (thing, (self.TWO, self.ONE)), ((0, 0), thing), ((0, 0), (self.TWO, self.ONE, thing)),
                ((0, 0), (self.TWO, (1, thing))), ((0, 0), (self.TWO, (thing, (SETB,)))),
                ((0, 0), (self.TWO, self.ONE, (None, (thing,)))), ((0, 0), (self.TWO, self.ONE, (None, thing))),
                ((0, 0), (self.TWO, self.ONE, (None, ((0, thing, "ok"),)))), ((thing, 0), (self.TWO, self.ONE)),
            ):
                self.check(plainly.story_holds(SHOP, LOG, WISH, value), value)

    def test_long(self):
        long = tuple([(None, (SETA,))] * 4000)
        self.yes(self.ONE, *long, self.TWO)
        self.yes(self.ONE, (None, (SETA,) * 6000), self.TWO)
        self.no(self.ONE, *long, self.TWO, (None, (READB,)))

    def test_changed(self):
        source = random.Random(122)
        found = {True: 0, False: 0}
        for _ in range(400):
            system = drawn.system(source, 3)
            log = drawn.fine_log(source, system)
            wish = drawn.wish(source, system, log)
            first = story(system, log, wish, most=MANY)
            for _ in range(10 if first is not None else 0):
                thing = changed(source, first)
                for _ in range(source.choice([0, 0, 0, 1, 2])):
                    thing = changed(source, thing)
                before = copied(thing)
                wanted = plainly.story_holds(system, log, wish, thing)
                self.assertIs(story_holds(system, log, wish, thing), wanted, (system, log, wish, thing))
                self.assertEqual(thing, before)
                found[wanted] += 1
        self.assertGreater(found[True], 20)

    def test_drawn_stories(self):
        """Any steps in any order: what is accepted is what the words of the document say."""
        source = random.Random(123)
        found = {True: 0, False: 0}
        for _ in range(3000):
            system = drawn.system(source, 2)
            log = drawn.fine_log(source, system, 3)
            wish = drawn.wish(source, system, log)
            steps = [(number, row) for number, over, _, row in log[1] if over]
            for number in plain.opened(log):
                row = plain.rows_of(log)[number]
                if number == wish[0]:
                    answer = source.choice(plain.possible_answers(system, wish))
                    steps.append((number, row + ((wish[1], wish[2], answer),)))
                elif source.random() < 0.6:
                    steps.append((number, row + drawn.row(source, system, source.choice([0, 0, 1]))))
            steps += [(None, drawn.row(source, system, 2)) for _ in range(source.choice([0, 0, 1, 2]))]
            source.shuffle(steps)
            thing = (source.choice(log[0]), tuple(steps))
            wanted = plainly.story_holds(system, log, wish, thing)
            self.assertIs(story_holds(system, log, wish, thing), wanted)
            found[wanted] += 1
        self.assertGreater(found[True], 200)


class Permits(unittest.TestCase):
    def test_a_step_with_just_its_row_may_be_in_a_story(self):
        log = (((0,),), (opened(0, (0, "get", "ok")), opened(1)))
        found = ((0,), ((0, ((0, "get", "ok"), (0, "back", "ok"))), (1, ((0, "get", "ok"),))))
        self.assertIs(story_holds((permits(1),), log, (1, 0, "get"), found), True)
        found = ((0,), ((1, ((0, "get", "ok"),)),))
        self.assertIs(story_holds((permits(1),), log, (1, 0, "get"), found), True)
        found = ((0,), ((0, ((0, "get", "ok"),)), (1, ((0, "get", "ok"),))))
        self.assertIs(story_holds((permits(1),), log, (1, 0, "get"), found), False)
