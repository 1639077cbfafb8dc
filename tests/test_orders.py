"""Promises [8] and [9]: orders of members, orders that fit, outcomes."""

import itertools
import random
import unittest

import drawn
import plain
from mustwait.builders import account, cell, queue
from mustwait.kinds import Kind
from mustwait.orders import fitting, is_fine, orders, outcomes
from values import copied

LETTER, PURSE, LINE = cell("a", "b"), account(2, 1), queue(2, "a", "b")
WORDS = "abcdefghij"
TEN = cell(*WORDS)
ALL = tuple(range(10))


def setting(number):
    return (0, "set" + WORDS[number], "ok")


def log(*entries, starts=((0,),)):
    return (starts, entries)


def opened(number, *row, earlier=()):
    return (number, False, earlier, row)


def done(number, *row, earlier=()):
    return (number, True, earlier, row)


SETS = log(*[opened(number, setting(number)) for number in ALL])


class Orders(unittest.TestCase):
    def all(self, system, source, members):
        found = list(orders(system, source, members))
        self.assertEqual(found, plain.orders(system, source, members))
        return found

    def test_all_orders(self):
        source = log(*[opened(number, setting(number)) for number in range(4)])
        self.assertEqual(len(self.all((TEN,), source, (0, 1, 2, 3))), 24)
        self.assertEqual(self.all((TEN,), source, (1, 3)), [((0,), (1, 3)), ((0,), (3, 1))])

    def test_no_members(self):
        self.assertEqual(list(orders((TEN,), SETS, ())), [((0,), ())])
        self.assertEqual(list(orders((LETTER,), log(starts=((0,), (1,))), ())), [((0,), ()), ((1,), ())])

    def test_some_members(self):
        source = log(opened(0, (0, "read", "b")), done(1, (0, "setb", "ok")), opened(2, (0, "read", "a")))
        self.assertEqual(self.all((LETTER,), source, (0, 1, 2)), [((0,), (2, 1, 0))])
        self.assertEqual(self.all((LETTER,), source, (0,)), [])
        self.assertEqual(self.all((LETTER,), source, (0, 1)), [((0,), (1, 0))])
        self.assertEqual(self.all((LETTER,), source, (1, 2)), [((0,), (2, 1))])

    def test_entries_before_others(self):
        source = log(done(0, setting(0)), done(1, setting(1)), done(2, setting(2), earlier=(0,)),
                     opened(3, setting(3), earlier=(0, 1)))
        self.assertEqual([order for _, order in self.all((TEN,), source, (0, 1, 2, 3))], [
            (0, 1, 2, 3), (0, 1, 3, 2), (0, 2, 1, 3), (1, 0, 2, 3), (1, 0, 3, 2),
        ])
        self.assertEqual([order for _, order in self.all((TEN,), source, (0, 1))], [(0, 1), (1, 0)])

    def test_several_starts(self):
        source = log(opened(0, (0, "take", "a")), opened(1, (0, "take", "b")), starts=tuple((n,) for n in range(7)))
        self.assertEqual(self.all((LINE,), source, (0, 1)), [((4,), (0, 1)), ((5,), (1, 0))])

    def test_sixty_four_starts(self):
        system = (cell("a", "b", "c", "d"),) * 3
        starts = tuple(itertools.product(range(4), repeat=3))
        source = log(opened(0, (0, "read", "c"), (2, "seta", "ok")), opened(3, (2, "read", "d")), starts=starts)
        found = self.all(system, source, (0, 3))
        self.assertEqual(found, [((2, one, 3), (3, 0)) for one in range(4)])

    def test_object_by_object(self):
        source = log(opened(0, (1, "put1", "ok"), (0, "read", "a")), opened(1, (0, "setb", "ok"), (1, "take1", "ok")),
                     starts=((0, 0),))
        self.assertEqual(self.all((LETTER, PURSE), source, (0, 1)), [((0, 0), (0, 1))])

    def test_gaps_in_the_numbers(self):
        source = log(done(7, setting(7)), opened(10 ** 30, setting(1), earlier=(7,)), opened(10 ** 31, setting(2)))
        self.assertEqual(len(self.all((TEN,), source, (7, 10 ** 30, 10 ** 31))), 3)

    def test_the_first_ones_come_at_once(self):
        found = list(itertools.islice(orders((TEN,), SETS, ALL), 4))
        self.assertEqual(found, [((0,), order) for order in itertools.islice(itertools.permutations(ALL), 4)])

    def test_the_first_ones_come_at_once_where_most_orders_do_not_fit(self):
        # Each one reads what the one behind it sets, but for the last one: one order fits.
        rows = [((0, "read", WORDS[number + 1]), setting(number)) for number in range(9)]
        source = log(*[opened(number, *row) for number, row in enumerate(rows)], opened(9, setting(9)))
        found = list(orders((TEN,), source, ALL))
        self.assertEqual(found, [((0,), tuple(reversed(ALL)))])

    def test_drawn(self):
        source = random.Random(81)
        many = 0
        for _ in range(400):
            system = drawn.system(source, 3)
            found = drawn.log(source, system, 5)
            before = copied(found)
            for outcome in plain.outcomes(found):
                many += len(self.all(system, found, tuple(sorted(plain.committed(found) + outcome))))
            for size in range(len(plain.committed(found)) + 1):
                members = {entry for number in plain.committed(found)[:size] for entry in (number,)}
                for number in list(members):
                    members |= set(plain.entries_of(found)[number][2])
                self.all(system, found, tuple(sorted(members)))
            self.assertEqual(found, before)
        self.assertGreater(many, 1000)

    def test_by_name(self):
        self.assertEqual(list(orders(members=(), log=SETS, system=(TEN,))), [((0,), ())])


class Fitting(unittest.TestCase):
    def check(self, system, source, members):
        found = fitting(system, source, members)
        if found is None:
            return False
        start, order = found
        self.assertIn(start, source[0])
        self.assertEqual(tuple(sorted(order)), members)
        self.assertTrue(plain.stands_behind(source, order))
        self.assertIsNotNone(plain.ends(system, source, start, order))
        return True

    def test_ten(self):
        self.assertTrue(self.check((TEN,), SETS, ALL))
        self.assertTrue(self.check((TEN,), SETS, (3, 9)))
        self.assertEqual(fitting((TEN,), SETS, ()), ((0,), ()))

    def test_none_with_ten(self):
        # Nobody can stand first, nobody last, two cannot stand behind one another.
        first = [opened(number, (0, "read", "j"), setting(number)) for number in range(9)]
        self.assertFalse(self.check((TEN,), log(*first, opened(9, (0, "read", "b"), setting(9))), ALL))
        last = [opened(number, setting(number), (0, "read", "a")) for number in range(1, 10)]
        self.assertFalse(self.check((TEN,), log(opened(0, setting(0)), *last), ALL))
        crossing = [opened(number, (0, "set" + WORDS[number], "ok")) for number in range(8)]
        source = log(*crossing, opened(8, (1, "seti", "ok"), (2, "read", "a")), opened(9, (2, "setj", "ok"), (1, "read", "a")),
                     starts=((0, 0, 0),))
        self.assertFalse(self.check((TEN,) * 3, source, ALL))
        source = (source[0], source[1][:9] + (opened(9, (2, "setj", "ok"), (1, "read", "i")),))
        self.assertTrue(self.check((TEN,) * 3, source, ALL))
        source = (source[0], source[1][:8] + (
            opened(8, (1, "seti", "ok"), (2, "read", "j")), opened(9, (2, "setj", "ok"), (1, "read", "i")),
        ))
        self.assertFalse(self.check((TEN,) * 3, source, ALL))

    def test_none_with_ten_at_two_objects(self):
        # Each object alone has an order, both together have none.
        ring = Kind(*[(("go", "ok", (state + 1) % 11),) + ((("see", "ok", state),) if state == 5 else ()) for state in range(11)])
        rows = [((0, "go", "ok"), (1, "go", "ok"))] * 8
        source = log(*[opened(number, *row) for number, row in enumerate(rows)],
                     opened(8, (0, "see", "ok"), (1, "go", "ok")), opened(9, (0, "go", "ok"), (1, "see", "ok")),
                     starts=((0, 0),))
        self.assertFalse(self.check((ring, ring), source, ALL))
        self.assertTrue(self.check((ring, ring), source, ALL[:9]))
        self.assertTrue(self.check((ring, ring), source, ALL[:8] + ALL[9:]))
        self.assertTrue(self.check((ring, ring), (((0, 1),), source[1]), ALL))

    def test_drawn(self):
        source = random.Random(82)
        found = {True: 0, False: 0}
        for _ in range(600):
            system = drawn.system(source, 3)
            one = drawn.log(source, system, 5)
            for outcome in plain.outcomes(one):
                members = tuple(sorted(plain.committed(one) + outcome))
                wanted = plain.has_order(system, one, members)
                self.assertEqual(self.check(system, one, members), wanted)
                found[wanted] += 1
        self.assertGreater(found[True], 200)
        self.assertGreater(found[False], 200)


class Outcomes(unittest.TestCase):
    def test_ascending(self):
        source = log(opened(1), done(2), opened(5), opened(40))
        self.assertEqual(list(outcomes(source)), [(), (1,), (1, 5), (1, 5, 40), (1, 40), (5,), (5, 40), (40,)])
        self.assertEqual(list(outcomes(log(opened(1), opened(2)))), [(), (1,), (1, 2), (2,)])

    def test_none_open(self):
        self.assertEqual(list(outcomes(log())), [()])
        self.assertEqual(list(outcomes(log(done(3)))), [()])

    def test_ten(self):
        found = list(outcomes(SETS))
        self.assertEqual(found, sorted(found))
        self.assertEqual(len(set(found)), 1024)

    def test_one_by_one(self):
        many = log(*[opened(number) for number in range(400)])
        found = list(itertools.islice(outcomes(many), 100))
        self.assertEqual(found, [tuple(range(size)) for size in range(100)])

    def test_drawn(self):
        source = random.Random(83)
        for _ in range(100):
            found = drawn.log(source, drawn.system(source), 7)
            self.assertEqual(list(outcomes(found)), plain.outcomes(found))


class Fine(unittest.TestCase):
    def test_ordinary(self):
        self.assertIs(is_fine((TEN,), log()), True)
        self.assertIs(is_fine((LETTER,), log(opened(0, (0, "setb", "ok")), opened(1, (0, "read", "a")))), True)
        self.assertIs(is_fine((LETTER,), log(opened(0, (0, "setb", "ok")), opened(1, (0, "read", "b")))), False)
        self.assertIs(is_fine((LETTER,), log(done(0, (0, "setb", "ok")), opened(1, (0, "read", "b")))), True)

    def test_just_one_outcome_without_an_order(self):
        # Two may take, whichever; not three.
        takes = [opened(number, (0, "take1", "ok")) for number in range(3)]
        self.assertIs(is_fine((PURSE,), log(*takes[:2], starts=((2,),))), True)
        self.assertIs(is_fine((PURSE,), log(*takes, starts=((2,),))), False)
        self.assertIs(is_fine((PURSE,), log(done(9, *takes[0][3]), starts=((0,),))), False)

    def test_from_some_start(self):
        source = log(opened(0, (0, "take", "a")), starts=((1,), (2,)))
        self.assertIs(is_fine((LINE,), source), True)
        source = log(opened(0, (0, "take", "a")), opened(1, (0, "take", "b")), starts=((1,), (2,)))
        self.assertIs(is_fine((LINE,), source), False)
        source = log(opened(0, (0, "take", "a")), opened(1, (0, "take", "b")), starts=((1,), (2,), (4,)))
        self.assertIs(is_fine((LINE,), source), True)

    def test_ten_open(self):
        self.assertIs(is_fine((TEN,), SETS), True)
        others = [opened(number, (0, "read", "a"), setting(number)) for number in range(10)]
        self.assertIs(is_fine((TEN,), log(*others)), False)
        self.assertIs(is_fine((TEN,), log(*[opened(number, (0, "read", "a")) for number in range(10)])), True)

    def test_committed_with_others_before(self):
        source = log(done(0, (0, "setb", "ok")), done(1, (0, "seta", "ok"), earlier=(0,)), opened(2, (0, "read", "b")))
        self.assertIs(is_fine((LETTER,), source), True)
        source = (source[0], source[1][:2] + (opened(2, (0, "read", "b"), earlier=(0, 1)),))
        self.assertIs(is_fine((LETTER,), source), False)

    def test_drawn(self):
        source = random.Random(84)
        found = {True: 0, False: 0}
        for _ in range(800):
            system = drawn.system(source, 3)
            one = drawn.log(source, system, 5)
            before = copied(one)
            wanted = plain.is_fine(system, one)
            self.assertIs(is_fine(system, one), wanted)
            self.assertEqual(one, before)
            found[wanted] += 1
        self.assertGreater(found[True], 100)
        self.assertGreater(found[False], 100)
