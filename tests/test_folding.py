"""Promise [13]: lots, settled entries, the folded log."""

import random
import unittest

import drawn
import plain
from mustwait.builders import account, cell, queue, switch
from mustwait.histories import is_log, log_of
from mustwait.kinds import Kind
from mustwait.orders import is_fine
from mustwait.stories import folded, settled
from mustwait.wishes import can_give, possible_answers, releases, status
from values import copied

LETTER, PURSE, LINE = cell("a", "b"), account(2, 1), queue(2, "a", "b")
BEGIN = ("begin",)
MANY = 10 ** 9


def opened(number, *row, earlier=()):
    return (number, False, earlier, row)


def done(number, *row, earlier=()):
    return (number, True, earlier, row)


SETA, SETB, READA, READB = (0, "seta", "ok"), (0, "setb", "ok"), (0, "read", "a"), (0, "read", "b")
ONE_START = ((0,),)


class Small(unittest.TestCase):
    def check(self, system, log, lot, left):
        self.assertEqual(settled(system, log), lot)
        self.assertEqual(folded(system, log), left)
        self.assertEqual(plain.settled(system, log), lot)
        self.assertEqual(plain.folded(system, log), left)

    def test_no_open_entry(self):
        puts = (BEGIN, BEGIN, ("did", 0, 0, "puta", "ok"), ("did", 1, 0, "putb", "ok"), ("commit", 0), ("commit", 1))
        self.check((LINE,), log_of((LINE,), puts), (0, 1), (((4,), (5,)), ()))
        self.check((LINE,), log_of((LINE,), puts[:2] + puts[2:3] + puts[4:]), (0, 1), (((1,),), ()))
        self.check((LINE,), (ONE_START, ()), (), (ONE_START, ()))

    def test_all_open(self):
        log = (ONE_START, (opened(0, SETB), opened(1)))
        self.check((LETTER,), log, (), log)

    def test_overlapping(self):
        puts = (BEGIN, BEGIN, ("did", 0, 0, "puta", "ok"), ("did", 1, 0, "putb", "ok"), ("commit", 0))
        log = log_of((LINE,), puts)
        self.check((LINE,), log, (), log)

    def test_behind_what_has_committed(self):
        log = (ONE_START, (done(0, SETB), opened(1, earlier=(0,))))
        self.check((LETTER,), log, (0,), (((1,),), (opened(1),)))

    def test_an_answer_tells(self):
        # Whoever reads what has been set cannot stand ahead of it any more.
        log = (ONE_START, (done(0, SETB), opened(1, READB)))
        self.check((LETTER,), log, (0,), (((1,),), (opened(1, READB),)))
        log = (ONE_START, (done(0, SETB), opened(1, READA)))
        self.check((LETTER,), log, (), log)

    def test_who_may_still_set_it_elsewhere(self):
        # 2 could go on and set b: then 1 stands behind 2, and perhaps ahead of 0.
        log = (ONE_START, (done(0, SETB), opened(1, READB), opened(2)))
        self.check((LETTER,), log, (), log)
        log = (ONE_START, (done(0, SETB), opened(1, READB), opened(2, earlier=(0,))))
        self.check((LETTER,), log, (0,), (((1,),), (opened(1, READB), opened(2))))

    def test_some_stay(self):
        log = (ONE_START, (done(0, SETB), done(1, SETA, earlier=(0,)), opened(2, earlier=(0,))))
        self.check((LETTER,), log, (0,), (((1,),), (done(1, SETA), opened(2))))

    def test_earlier_ones_of_those_that_stay(self):
        log = (ONE_START, (done(0, SETB), done(1, SETA, earlier=(0,)), done(2, READA, earlier=(0, 1)), opened(3, earlier=(0,)),
                           opened(4, earlier=(0, 1, 2))))
        self.check((LETTER,), log, (0,), (((1,),), (
            done(1, SETA), done(2, READA, earlier=(1,)), opened(3), opened(4, earlier=(1, 2)),
        )))

    def test_starts_behind_which_nothing_fits(self):
        # Both orders of the lot count, though only one of them fits with what stands behind.
        log = (ONE_START, (done(0, SETA), done(1, SETB), opened(2, READB, earlier=(0, 1))))
        self.check((LETTER,), log, (0, 1), (((0,), (1,)), (opened(2, READB),)))

    def test_from_some_start(self):
        log = (((0,), (1,)), (done(0, READB), opened(1, earlier=(0,))))
        self.check((LETTER,), log, (0,), (((1,),), (opened(1),)))

    def test_alike_states(self):
        kind = Kind((("go", "ok", 2),), (("stay", "ok", 1),), (("stay", "ok", 3),), (("stay", "ok", 2),))
        self.check((kind,), (ONE_START, (done(0, (0, "go", "ok")),)), (0,), (((1,),), ()))
        # state 1 is not reached, but alike and first; starts are replaced even if nothing is settled
        self.check((kind,), (((2,), (3,)), ()), (), (((1,),), ()))
        self.check((kind,), (((0,), (2,)), (opened(0),)), (), (((0,), (1,)), (opened(0),)))

    def test_object_by_object(self):
        system = (LETTER, switch())
        log = (((0, 0),), (done(0, SETB, (1, "turn", "ok")), done(1, (1, "look", "off")), opened(2, (1, "look", "on"))))
        self.check(system, log, (0, 1), (((1, 1),), (opened(2, (1, "look", "on")),)))
        log = (log[0], log[1][:2] + (opened(2, (1, "look", "on")), opened(3)))
        self.check(system, log, (), log)
        # 3 needs a b, 2 a turn: one of them could help the other one, but neither can come first.
        log = (log[0], log[1][:3] + (opened(3, READB),))
        self.check(system, log, (0, 1), (((1, 1),), log[1][2:]))

    def test_gaps_in_the_numbers(self):
        log = (ONE_START, (done(10, SETB), opened(10 ** 20, earlier=(10,))))
        self.check((LETTER,), log, (10,), (((1,),), (opened(10 ** 20),)))

    def test_ten_that_have_committed(self):
        system = (cell(*"abcdefghij"),)
        log = (ONE_START, tuple(done(n, (0, "set" + "abcdefghij"[n], "ok")) for n in range(10)))
        self.assertEqual(settled(system, log, most=20000), tuple(range(10)))
        self.assertEqual(folded(system, log, most=20000), (tuple((n,) for n in range(10)), ()))
        longer = (ONE_START, log[1][:9] + (opened(9, (0, "read", "c"), earlier=(1, 2)),))
        self.assertEqual(settled(system, longer, most=20000), ())

    def test_results(self):
        log = (ONE_START, (done(0, SETB), opened(1, earlier=(0,))))
        self.assertIs(type(settled((LETTER,), log)), tuple)
        self.assertIs(is_log((LETTER,), folded((LETTER,), log)), True)

    def test_by_name(self):
        self.assertEqual(settled(most=9, log=(ONE_START, ()), system=(LETTER,)), ())
        self.assertEqual(folded(most=9, log=(ONE_START, ()), system=(LETTER,)), (ONE_START, ()))


class Drawn(unittest.TestCase):
    def test_drawn(self):
        source = random.Random(131)
        sizes = []
        for _ in range(600):
            system = drawn.system(source, 3)
            log = drawn.fine_log(source, system, 5)
            before = copied(log)
            lot = settled(system, log, most=MANY)
            self.assertEqual(lot, plain.settled(system, log))
            left = folded(system, log, most=MANY)
            self.assertEqual(left, plain.folded(system, log))
            self.assertEqual(log, before)
            self.assertIs(is_log(system, left), True)
            self.assertIs(is_fine(system, left), True)
            self.assertEqual(folded(system, left, most=MANY), left)
            self.assertEqual(settled(system, left, most=MANY), ())
            sizes.append((len(lot), len(plain.committed(log))))
        self.assertEqual([pair for pair in ((0, 0), (0, 2), (1, 1), (1, 2), (2, 2), (2, 3)) if pair not in sizes], [])

    def test_wishes_are_answered_as_in_the_log(self):
        source = random.Random(132)
        many = 0
        while many < 150:
            system = drawn.system(source, 3)
            log = drawn.fine_log(source, system)
            left = folded(system, log, most=MANY)
            if left == log:
                continue
            many += 1
            for _ in range(3):
                wish = drawn.wish(source, system, log)
                self.assertEqual(status(system, left, wish, most=MANY), status(system, log, wish, most=MANY))
                self.assertEqual(releases(system, left, wish, most=MANY), releases(system, log, wish, most=MANY))
                for answer in possible_answers(system, wish):
                    self.assertEqual(
                        can_give(system, left, wish, answer, most=MANY), can_give(system, log, wish, answer, most=MANY)
                    )
