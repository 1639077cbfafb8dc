"""Promises [6] and [7]: histories, logs, the log of a history."""

import random
import unittest

import drawn
import plainly
from mustwait.builders import account, cell, queue, switch
from mustwait.histories import is_history, is_log, log_of
from mustwait.kinds import Kind
from values import ANY_VALUES, changed, copied, nested

PURSE, LETTER, LINE = account(2, 1), cell("a", "b"), queue(2, "a", "b")
SHOP = (LETTER, PURSE)
DAY = (("begin",), ("begin",), ("did", 0, 0, "setb", "ok"), ("did", 1, 0, "read", "a"), ("did", 1, 1, "put1", "ok"))
# Its second state is not reached; its events are events of the kind all the same.
FAR = Kind((("here", "ok", 0),), (("there", "ok", 1),))


def says_history(system, thing):
    """Promise [6] once more, written another way."""
    if type(thing) is not tuple:
        return False
    running = set()
    begun = 0
    for part in thing:
        if plainly.same(part, ("begin",)):
            running.add(begun)
            begun += 1
            continue
        if type(part) is not tuple or len(part) not in (2, 5):
            return False
        if type(part[1]) is not int or part[1] not in running:
            return False
        if len(part) == 2:
            if not any(plainly.same(part[0], word) for word in ("commit", "abort")):
                return False
            running.remove(part[1])
        elif not plainly.same(part[0], "did") or not plainly.is_event(system, part[2:]):
            return False
    return True


def says_log(system, thing):
    """Promise [7] once more, written another way."""
    if not plainly.is_tuple(thing, 2) or not plainly.is_tuple(thing[0]) or thing[0] == ():
        return False
    if not all(plainly.is_start(system, start) for start in thing[0]) or not plainly.ascending(thing[0]):
        return False
    return plainly.is_tuple(thing[1]) and says_entries(system, thing[1])


def says_entries(system, entries):
    earlier_of = {}
    last = -1
    for entry in entries:
        if not plainly.is_tuple(entry, 4) or type(entry[0]) is not int or entry[0] <= last:
            return False
        number, committed, earlier, row = entry
        if type(committed) is not bool or not plainly.is_numbers(earlier, earlier_of):
            return False
        if not all(set(earlier_of[other]) <= set(earlier) for other in earlier):
            return False
        if not plainly.is_tuple(row) or not all(plainly.is_event(system, part) for part in row):
            return False
        if committed:
            earlier_of[number] = earlier
        last = number
    return True


class Histories(unittest.TestCase):
    def yes(self, *things, system=SHOP):
        self.assertIs(is_history(system, things), True, things)

    def no(self, *things, system=SHOP):
        self.assertIs(is_history(system, things), False, things)

    def test_ordinary(self):
        self.yes()
        self.yes(("begin",))
        self.yes(*DAY)
        self.yes(*DAY, ("commit", 1), ("abort", 0))
        self.yes(("begin",), ("commit", 0), ("begin",), ("abort", 1))
        self.yes(("begin",), ("did", 0, 1, "take1", "ok"))

    def test_events_at_states_that_are_not_reached(self):
        self.yes(("begin",), ("did", 0, 0, "there", "ok"), system=(FAR,))

    def test_transactions_that_are_not_open(self):
        for thing in (("did", 0, 0, "read", "a"), ("commit", 0), ("abort", 0)):
            self.no(thing)
            self.no(("begin",), ("commit", 0), thing)
            self.no(("begin",), ("abort", 0), thing)
            self.no(("begin",), ("begin",), ("commit", 0), thing)
            self.yes(("begin",), thing)

    def test_numbers(self):
        for number in (1, 2, -1, True, False, None, "0", "", 10 ** 39, -(10 ** 39), (0,), [0], {0: 0}, ()):
            self.no(("begin",), ("did", number, 0, "read", "a"))
            self.no(("begin",), ("commit", number))
            self.no(("begin",), ("abort", number))
        self.no(("begin",), ("begin",), ("commit", True))

    def test_objects(self):
        for place in (2, -1, True, False, None, "0", 10 ** 39, (0,), [0], {}):
            self.no(("begin",), ("did", 0, place, "read", "a"))
            self.no(("begin",), ("did", 0, place, "put1", "ok"))

    def test_events(self):
        for words in (("read", "c"), ("setc", "ok"), ("reada", ""), ("a", "read"), ("read", "ok"), ("setb", "b")):
            self.no(("begin",), ("did", 0, 0) + words)
        for words in ((1, "a"), ("read", None), (("read",), "a"), ("read", ["a"]), ({}, {}), ([], []), (True, False)):
            self.no(("begin",), ("did", 0, 0) + words)

    def test_an_event_of_another_object(self):
        self.no(("begin",), ("did", 0, 0, "put1", "ok"))
        self.no(("begin",), ("did", 0, 1, "read", "a"))
        self.yes(("begin",), ("did", 0, 1, "put1", "ok"), ("did", 0, 0, "read", "a"))

    def test_words_in_other_places(self):
        for thing in (
            ("Begin",), ("begin", 0), ("begin", "begin"), ("commit",), ("commit", 0, 0), ("abort",), (0, "commit"),
            ("did", 0), ("did", 0, 0), ("did", 0, 0, "read"), ("did", 0, 0, "read", "a", 0), ("read", 0, 0, "did", "a"),
            (0, 0, "did", "read", "a"), ("did", "read", "a", 0, 0), ("did", 0, "read", 0, "a"), (), "begin", ("did",),
            "did", ("commit", 0, 0, "read", "a"), ("begin", 0, 0, "read", "a"), (None,), (True,), (0,), (("begin",),),
        ):
            self.no(("begin",), thing)

    def test_lists(self):
        self.no(["begin"])
        self.no(("begin",), ["commit", 0])
        self.no(("begin",), ["did", 0, 0, "read", "a"])
        self.assertIs(is_history(SHOP, [("begin",)]), False)
        self.assertIs(is_history(SHOP, []), False)

    def test_any_values(self):
        for thing in ANY_VALUES:
            self.assertIs(is_history(SHOP, thing), says_history(SHOP, thing))
            self.assertIs(is_history(SHOP, (thing,)), says_history(SHOP, (thing,)))
            self.assertIs(is_history(SHOP, (("begin",), thing)), says_history(SHOP, (("begin",), thing)))
            for at in range(5):
                part = ("did", 0, 0, "read", "a")
                value = (("begin",), part[:at] + (thing,) + part[at + 1:])
                self.assertIs(is_history(SHOP, value), says_history(SHOP, value))

    def test_deep_and_long(self):
        self.no(nested(200, lambda thing: (thing,)))
        self.assertIs(is_history(SHOP, nested(200, lambda thing: (("begin",), thing))), False)
        self.yes(*[("begin",)] * 20000)
        self.no(*[("begin",)] * 19999, ("commit", 19999))
        self.yes(*[("begin",)] * 9000, *[("commit", number) for number in range(9000)])

    def test_many_transactions(self):
        things = []
        for number in range(50):
            things += [("begin",), ("did", number, 0, "seta", "ok"), ("did", number, 1, "put1", "ok"), ("abort", number)]
        self.assertEqual(len(things), 200)
        self.yes(*things)
        self.no(*things, ("abort", 49))
        self.yes(*things, ("begin",), ("commit", 50))

    def test_changed(self):
        source = random.Random(61)
        found = {True: 0, False: 0}
        for _ in range(1500):
            system = drawn.system(source, 3)
            history = drawn.history(source, system, source.randrange(1, 15))
            self.assertIs(is_history(system, history), True)
            for _ in range(4):
                history = changed(source, history)
                before = copied(history)
                wanted = says_history(system, history)
                self.assertIs(is_history(system, history), wanted, history)
                self.assertEqual(history, before)
                found[wanted] += 1
        self.assertGreater(found[True], 50)

    def test_by_name(self):
        self.assertIs(is_history(thing=DAY, system=SHOP), True)


class Logs(unittest.TestCase):
    def check(self, wanted, starts, *entries, system=SHOP):
        self.assertIs(is_log(system, (starts, entries)), wanted, (starts, entries))
        self.assertIs(says_log(system, (starts, entries)), wanted, (starts, entries))

    def starts(self, wanted, *starts, system=SHOP):
        self.check(wanted, starts, (0, False, (), ()), system=system)

    def entries(self, wanted, *entries, system=SHOP):
        self.check(wanted, ((0,) * len(system),), *entries, system=system)

    def test_starts(self):
        self.starts(True, (0, 0))
        self.starts(True, (0, 0), (0, 2), (1, 1))
        self.starts(True, *[(one, other) for one in range(2) for other in range(3)])
        self.starts(True, (1,), system=(FAR,))
        self.starts(False)
        self.starts(False, (1, 1), (0, 0))
        self.starts(False, (0, 0), (0, 0))
        self.starts(False, (0, 0), (1, 1), (1, 1))

    def test_states_of_starts(self):
        for start in ((0,), (0, 0, 0), (), (2, 0), (0, 3), (0, -1), (-1, 0), (True, 0), (0, False), (0, None)):
            self.starts(False, start)
        for start in (("0", 0), (0, (0,)), (0, [0]), [0, 0], "00", 0, None, {}, (10 ** 39, 0), ((0, 0),)):
            self.starts(False, start)
            self.starts(False, (0, 0), start)

    def test_starts_that_are_no_tuple(self):
        for starts in ([(0, 0)], (0, 0), None, "", {(0, 0): True}, {}, 0, True):
            self.check(False, starts, (0, False, (), ()))

    def test_entries(self):
        self.entries(True)
        self.entries(True, (0, False, (), ()))
        self.entries(True, (0, True, (), ((0, "setb", "ok"), (1, "take1", "ok"))), (1, False, (0,), ((0, "read", "a"),)))
        self.entries(True, (5, True, (), ()), (6, True, (), ()), (90, False, (5,), ()), (10 ** 38, True, (5, 6), ()))
        self.entries(False, (1, True, (), ()), (0, False, (), ()))
        self.entries(False, (1, True, (), ()), (1, False, (), ()))

    def test_more_than_ten(self):
        many = [(number, True, tuple(range(number)), ()) for number in range(60)]
        self.entries(True, *many)
        self.entries(False, *many[:30], *many[31:])
        self.entries(True, *[(number, False, (), ()) for number in range(11)])

    def test_numbers(self):
        for number in (-1, True, False, None, "0", (0,), [0], {}, -(10 ** 39)):
            self.entries(False, (number, False, (), ()))
            self.entries(False, (0, True, (), ()), (number, False, (), ()))

    def test_committed(self):
        for committed in (0, 1, None, "True", (), (True,), [False]):
            self.entries(False, (0, committed, (), ()))

    def test_earlier(self):
        one, two = (1, True, (), ()), (2, True, (1,), ())
        self.entries(True, one, two, (3, False, (1, 2), ()))
        self.entries(True, one, two, (3, False, (1,), ()))
        self.entries(True, one, (2, True, (), ()), (3, False, (2,), ()))
        # what is before one of them is missing
        self.entries(False, one, two, (3, False, (2,), ()))
        # not ascending, doubled, not there, itself, greater, open
        self.entries(False, one, two, (3, False, (2, 1), ()))
        self.entries(False, one, two, (3, False, (1, 1), ()))
        self.entries(False, one, two, (3, False, (0,), ()))
        self.entries(False, one, two, (3, False, (1, 2, 3), ()))
        self.entries(False, one, two, (3, True, (1, 2, 3), ()))
        self.entries(False, (1, True, (2,), ()), (2, True, (), ()))
        self.entries(False, (1, False, (), ()), (2, True, (1,), ()))
        for earlier in ((True,), ("1",), (None,), ([1],), [1], 1, None, {1: 1}, ((1,),), (-1,), (10 ** 39,)):
            self.entries(False, one, (2, False, earlier, ()))

    def test_rows(self):
        for row in (
            ((0, "read", "c"),), ((0, "put1", "ok"),), ((1, "read", "a"),), ((2, "read", "a"),), ((-1, "put1", "ok"),),
            ((True, "put1", "ok"),), ((False, "read", "a"),), (("read", "a"),), ((0, "read"),), ((0, "read", "a", 0),),
            ([0, "read", "a"],), [(0, "read", "a")], (0, "read", "a"), None, "", {}, 0, ((0, ["read"], "a"),), ((),),
            ((0, "a", "read"),), (("read", 0, "a"),), ((0, "read", "a"), ()),
        ):
            self.entries(False, (0, True, (), row))
        self.entries(True, (0, True, (), ((0, "there", "ok"),)), system=(FAR,))

    def test_shapes_of_entries(self):
        for entry in (
            (), (0,), (0, False), (0, False, ()), (0, False, (), (), ()), [0, False, (), ()], (False, 0, (), ()),
            (0, (), False, ()), None, 0, "", {}, (0, False, [], ()), (0, False, (), []),
        ):
            self.entries(False, entry)

    def test_shapes(self):
        good = (((0, 0),), ())
        self.assertIs(is_log(SHOP, good), True)
        for thing in (good[:1], good + ((),), list(good), ((), ()), ((0, 0),), (good,), good[::-1], None, {}, ""):
            self.assertIs(is_log(SHOP, thing), False)
        self.assertIs(is_log(SHOP, (((0, 0),), [])), False)
        self.assertIs(is_log(SHOP, (((0, 0),), None)), False)

    def test_any_values(self):
        good = (((0, 0),), ((0, True, (), ((0, "read", "a"),)),))
        for thing in ANY_VALUES:
            for value in (thing, (thing, ()), (((0, 0),), thing), (thing, good[1]), (good[0], (thing,)), (good, thing)):
                self.assertIs(is_log(SHOP, value), says_log(SHOP, value))
            for at in range(4):
                entry = good[1][0]
                value = (good[0], (entry[:at] + (thing,) + entry[at + 1:],))
                self.assertIs(is_log(SHOP, value), says_log(SHOP, value))

    def test_long(self):
        self.check(True, ((0, 0),), *[(number, True, (), ()) for number in range(6000)])
        many = tuple(range(190))
        self.check(True, ((0, 0),), *[(number, True, many[:number], ()) for number in many])
        self.check(False, ((0, 0),), *[(number, True, many[:number], ()) for number in many], (190, False, (7,), ()))

    def test_changed(self):
        source = random.Random(71)
        found = {True: 0, False: 0}
        for _ in range(1500):
            system = drawn.system(source, 3)
            log = drawn.log(source, system)
            self.assertIs(is_log(system, log), True)
            for _ in range(4):
                log = changed(source, log)
                before = copied(log)
                wanted = says_log(system, log)
                self.assertIs(is_log(system, log), wanted, log)
                self.assertEqual(log, before)
                found[wanted] += 1
        self.assertGreater(found[True], 50)

    def test_by_name(self):
        self.assertIs(is_log(thing=(((0, 0),), ()), system=SHOP), True)


class LogsOfHistories(unittest.TestCase):
    def entries(self, *things):
        starts, entries = log_of(SHOP, things)
        self.assertEqual(starts, ((0, 0),))
        self.assertIs(is_log(SHOP, (starts, entries)), True)
        return entries

    def test_empty(self):
        self.assertEqual(log_of(SHOP, ()), (((0, 0),), ()))
        self.assertEqual(log_of((LINE,), ()), (((0,),), ()))
        self.assertEqual(log_of((LINE, LINE, LETTER, PURSE), ()), (((0, 0, 0, 0),), ()))

    def test_overlapping(self):
        found = self.entries(*DAY, ("commit", 0), ("commit", 1))
        self.assertEqual(found, (
            (0, True, (), ((0, "setb", "ok"),)), (1, True, (), ((0, "read", "a"), (1, "put1", "ok"))),
        ))

    def test_rows_keep_their_order(self):
        found = self.entries(
            ("begin",), ("begin",), ("did", 1, 1, "put1", "ok"), ("did", 0, 1, "take1", "no"), ("did", 1, 0, "seta", "ok"),
            ("did", 1, 1, "put1", "full"),
        )
        self.assertEqual(found[0], (0, False, (), ((1, "take1", "no"),)))
        self.assertEqual(found[1], (1, False, (), ((1, "put1", "ok"), (0, "seta", "ok"), (1, "put1", "full"))))

    def test_one_behind_the_other(self):
        begin = ("begin",)
        found = self.entries(begin, ("commit", 0), begin, ("commit", 1), begin)
        self.assertEqual([entry[2] for entry in found], [(), (0,), (0, 1)])
        self.assertEqual([entry[1] for entry in found], [True, True, False])

    def test_who_is_before_whom(self):
        begin = ("begin",)
        found = self.entries(begin, begin, ("commit", 1), begin, ("commit", 0), begin, ("commit", 2), begin)
        self.assertEqual([entry[:3] for entry in found], [
            (0, True, ()), (1, True, ()), (2, True, (1,)), (3, False, (0, 1)), (4, False, (0, 1, 2)),
        ])

    def test_aborts(self):
        begin = ("begin",)
        found = self.entries(begin, begin, ("did", 0, 0, "seta", "ok"), ("abort", 0), begin, ("commit", 1), begin)
        self.assertEqual(found, ((1, True, (), ()), (2, False, (), ()), (3, False, (1,), ())))
        self.assertEqual(self.entries(begin, ("abort", 0)), ())
        self.assertEqual(self.entries(begin, ("abort", 0), begin, ("commit", 1), begin)[1], (2, False, (1,), ()))

    def test_commits_without_answers(self):
        self.assertEqual(self.entries(("begin",), ("commit", 0)), ((0, True, (), ()),))

    def test_drawn(self):
        source = random.Random(72)
        for _ in range(500):
            system = drawn.system(source, 3)
            history = drawn.history(source, system, 20, 8)
            before = copied(history)
            log = log_of(system, history)
            self.assertEqual(history, before)
            self.assertIs(is_log(system, log), True)
            self.assertEqual(log, self.plain(system, history))

    def plain(self, system, history):
        begun = [at for at, thing in enumerate(history) if thing == ("begin",)]
        ended = {(thing[0], thing[1]): at for at, thing in enumerate(history) if len(thing) == 2}
        entries = []
        for number, begin in enumerate(begun):
            if ("abort", number) not in ended:
                earlier = [other for other in range(len(begun)) if ended.get(("commit", other), 999) < begin]
                row = [thing[2:] for thing in history if thing[0] == "did" and thing[1] == number]
                entries.append((number, ("commit", number) in ended, tuple(earlier), tuple(row)))
        return (((0,) * len(system),), tuple(entries))

    def test_by_name(self):
        self.assertEqual(log_of(history=(), system=(switch(),)), (((0,),), ()))
