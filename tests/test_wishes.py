"""Promises [10] and [11], and the sorts of [12]: what can be given, good sets, releases, status."""

import random
import unittest

import drawn
import plain
from mustwait.builders import account, cell, counter, permits, pool, queue, stack, switch, tickets
from mustwait.histories import log_of
from mustwait.kinds import Kind
from mustwait.wishes import can_give, good_sets, possible_answers, releases, status
from values import copied

LETTER, PURSE, LINE = cell("a", "b"), account(2, 1), queue(2, "a", "b")
SHOP, PAIR = (LETTER, PURSE), (switch(), switch())
BEGIN = ("begin",)
ONE_START = ((0,),)
MANY = 10 ** 9


def opened(number, *row, earlier=()):
    return (number, False, earlier, row)


def done(number, *row, earlier=()):
    return (number, True, earlier, row)


class PossibleAnswers(unittest.TestCase):
    def test_ordinary(self):
        self.assertEqual(possible_answers(SHOP, (0, 1, "take1")), ("no", "ok"))
        self.assertEqual(possible_answers(SHOP, (0, 0, "read")), ("a", "b"))
        self.assertEqual(possible_answers(SHOP, (0, 0, "setb")), ("ok",))
        self.assertEqual(possible_answers((tickets(12),), (3, 0, "next")), tuple(sorted(map(str, range(1, 13)))))

    def test_at_states_that_are_not_reached(self):
        kind = Kind((("see", "one", 0),), (("go", "on", 0), ("see", "far", 1)))
        self.assertEqual(possible_answers((kind,), (0, 0, "see")), ("far", "one"))
        self.assertEqual(possible_answers((kind,), (0, 0, "go")), ("on",))
        log = (ONE_START, (opened(0),))
        self.assertIs(can_give((kind,), log, (0, 0, "see"), "far"), False)
        self.assertEqual(good_sets((kind,), log, (0, 0, "see"), "far"), ())
        self.assertEqual([status((kind,), log, (0, 0, word)) for word in ("see", "go")], ["given", "never"])
        self.assertEqual(status((kind,), (((1,),), log[1]), (0, 0, "go")), "given")

    def test_words_that_begin_alike(self):
        kind = Kind((("go", "a", 0), ("goo", "b", 0)))
        self.assertEqual(possible_answers((kind,), (0, 0, "go")), ("a",))


class Small(unittest.TestCase):
    def test_one_alone(self):
        log = (ONE_START, (opened(0),))
        self.assertIs(can_give((PURSE,), log, (0, 0, "take1"), "no"), True)
        self.assertIs(can_give((PURSE,), log, (0, 0, "take1"), "ok"), False)
        self.assertEqual(good_sets((PURSE,), log, (0, 0, "take1"), "no"), ((),))
        self.assertEqual(good_sets((PURSE,), log, (0, 0, "take1"), "ok"), ())
        self.assertEqual(releases((PURSE,), log, (0, 0, "take1")), ())

    def test_several_answers(self):
        log = (((3,),), (opened(0),))
        kind = pool(2, "a", "b")
        self.assertEqual(kind.answers(4, "take"), ("a", "b"))
        log = (((4,),), (opened(0), opened(1)))
        self.assertEqual([can_give((kind,), log, (0, 0, "take"), word) for word in "ab"], [True, True])
        log = (((4,),), (opened(0), opened(1, (0, "take", "a"))))
        self.assertEqual([can_give((kind,), log, (0, 0, "take"), word) for word in "ab"], [False, True])
        self.assertEqual(status((kind,), log, (0, 0, "take")), "given")
        self.assertEqual(releases((kind,), log, (0, 0, "take")), ())

    def test_both_ways_to_be_freed(self):
        things = (BEGIN, BEGIN, ("did", 0, 0, "read", "a"), ("did", 1, 0, "setb", "ok"), ("did", 0, 1, "put1", "ok"))
        log = log_of(SHOP, things)
        self.assertEqual(releases(SHOP, log, (1, 1, "take1")), (("no", (), (0,)), ("ok", (0,), ())))
        self.assertEqual(releases(SHOP, log, (0, 1, "take1")), ())

    def test_two_of_three(self):
        # Two permits are out; a third one may be had as soon as some one aborts.
        log = (ONE_START, tuple(opened(number, (0, "get", "ok")) for number in range(3)) + (opened(7),))
        self.assertEqual(releases((permits(3),), log, (7, 0, "get")), (("ok", (), (0,)), ("ok", (), (1,)), ("ok", (), (2,))))
        self.assertEqual(good_sets((permits(3),), log, (7, 0, "get"), "ok"), tuple(
            chosen for chosen in plain.subsets((0, 1, 2)) if len(chosen) < 3
        ))

    def test_several_in_one_release(self):
        puts = tuple(opened(number, (0, "add", "ok")) for number in range(3))
        log = (ONE_START, puts + (opened(3),))
        # Each number may be read: so the reader may stand anywhere.
        self.assertEqual(status((counter(3),), log, (3, 0, "read")), "given")
        log = (ONE_START, tuple((n, False, (), row + ((1, "look", "off"),)) for n, _, _, row in puts)
               + (opened(3, (1, "turn", "ok")),))
        log = (((0, 0),), log[1])
        system = (counter(3), switch())
        self.assertEqual(plain.releases(system, log, (3, 0, "read")), releases(system, log, (3, 0, "read")))
        self.assertEqual(releases(system, log, (3, 0, "read"))[0], ("0", (), (0, 1, 2)))
        self.assertIn(("2", (0, 2), (1,)), releases(system, log, (3, 0, "read")))
        self.assertEqual(len(releases(system, log, (3, 0, "read"))), 8)

    def test_the_sorts(self):
        self.assertEqual(status((LINE,), (ONE_START, (opened(0),)), (0, 0, "take")), "later")
        self.assertEqual(status((LINE,), (((6,),), (opened(0),)), (0, 0, "puta")), "later")
        self.assertEqual(status((tickets(1),), (((1,),), (opened(0),)), (0, 0, "next")), "never")
        self.assertEqual(status((LINE,), (ONE_START, (opened(0), opened(1, (0, "puta", "ok")))), (0, 0, "take")), "waits")
        self.assertEqual(status((LINE,), (ONE_START, (opened(0), opened(1))), (0, 0, "take")), "later")

    def test_later_by_another_open_one_alone(self):
        # Transactions to come stand behind 1, and so behind 2; only 3 can still come ahead.
        kind = Kind((("arm", "ok", 1),), (("arm", "ok", 1), ("see", "ok", 1)))
        system = (kind, switch())
        log = (((0, 0),), (done(1, (1, "turn", "ok")), opened(2, (1, "look", "off")), opened(3)))
        self.assertEqual(status(system, log, (2, 0, "see")), "later")
        self.assertEqual(status(system, (log[0], log[1][:2]), (2, 0, "see")), "never")
        self.assertEqual(status(system, (log[0], log[1][:2]), (2, 0, "arm")), "given")

    def test_later_by_transactions_to_come_alone(self):
        # Transaction 1 cannot come first any more, those to come stand behind all that has committed.
        log = (ONE_START, (done(1), opened(2, earlier=(1,))))
        self.assertEqual(status((LINE,), log, (2, 0, "take")), "later")
        log = (ONE_START, (done(1, (0, "puta", "ok"), (0, "take", "a")), opened(2, earlier=(1,))))
        self.assertEqual(status((LINE,), log, (2, 0, "take")), "later")

    def test_never_where_nothing_helps(self):
        things = (BEGIN, BEGIN, ("did", 0, 0, "look", "off"), ("did", 1, 1, "look", "off"), ("did", 0, 1, "turn", "ok"))
        self.assertEqual(status(PAIR, log_of(PAIR, things), (1, 0, "turn")), "waits")
        self.assertEqual(releases(PAIR, log_of(PAIR, things), (1, 0, "turn")), (("ok", (), (0,)),))
        self.assertEqual(status(PAIR, log_of(PAIR, things + (("commit", 0),)), (1, 0, "turn")), "never")
        self.assertEqual(releases(PAIR, log_of(PAIR, things + (("commit", 0),)), (1, 0, "turn")), ())
        self.assertEqual(status(PAIR, log_of(PAIR, things + (("abort", 0),)), (1, 0, "turn")), "given")

    def test_committed_entries_between(self):
        log = (ONE_START, (done(0, (0, "setb", "ok")), opened(1), done(2, (0, "seta", "ok"), earlier=(0,)), opened(3, earlier=(0, 2))))
        self.assertEqual([can_give((LETTER,), log, (1, 0, "read"), word) for word in "ab"], [True, True])
        self.assertEqual([can_give((LETTER,), log, (3, 0, "read"), word) for word in "ab"], [True, False])

    def test_several_starts(self):
        log = (((1,), (2,)), (opened(0),))
        self.assertEqual([can_give((LINE,), log, (0, 0, "take"), word) for word in "ab"], [True, True])
        log = (((1,), (2,)), (opened(0, (0, "take", "a")), opened(1)))
        self.assertEqual(status((LINE,), log, (1, 0, "take")), "waits")
        self.assertEqual(releases((LINE,), log, (1, 0, "take")), (("a", (), (0,)), ("b", (), (0,))))

    def test_nine_others(self):
        system = (cell(*"abcdefghij"), account(2, 1))
        entries = [opened(n, (0, "set" + "abcdefghij"[n], "ok")) for n in range(9)]
        log = (((0, 0),), tuple(entries) + (opened(9),))
        self.assertEqual(len(good_sets(system, log, (9, 0, "read"), "a", most=MANY)), 512)
        self.assertEqual(len(good_sets(system, log, (9, 0, "read"), "b", most=MANY)), 256)
        self.assertEqual(status(system, log, (9, 0, "read"), most=MANY), "given")
        looks = [opened(n, (1, "look", "off"), *entries[n][3]) for n in range(9)]
        log = (((0, 0),), tuple(looks) + (opened(9, (1, "turn", "ok")),))
        system = (cell(*"abcdefghij"), switch())
        wish = (9, 0, "read")
        found = releases(system, log, wish, most=MANY)
        self.assertEqual(found[0], ("a", (), tuple(range(1, 9))))
        self.assertEqual(found[1:], tuple(("abcdefghi"[n], (n,), ()) for n in range(9)))

    def test_results_are_tuples_and_bools(self):
        log = (ONE_START, (opened(0), opened(1, (0, "puta", "ok"))))
        for word in "ab":
            self.assertIs(type(can_give((LINE,), log, (0, 0, "take"), word)), bool)
            self.assertIs(type(good_sets((LINE,), log, (0, 0, "take"), word)), tuple)
        self.assertEqual(releases((LINE,), log, (0, 0, "take")), (("a", (1,), ()),))

    def test_by_name(self):
        log = (ONE_START, (opened(0),))
        wish = (0, 0, "take")
        self.assertIs(can_give(answer="a", wish=wish, log=log, system=(LINE,), most=9), False)
        self.assertEqual(good_sets(answer="a", wish=wish, log=log, system=(LINE,), most=9), ())
        self.assertEqual(releases(wish=wish, log=log, system=(LINE,), most=9), ())
        self.assertEqual(status(wish=wish, log=log, system=(LINE,), most=9), "later")
        self.assertEqual(possible_answers(wish=wish, system=(LINE,)), ("a", "b"))


class Drawn(unittest.TestCase):
    def check(self, system, log, wish):
        """Holds all that is said of a wish against a plain look through all orders of all sets."""
        before = copied((log, wish))
        answers = plain.possible_answers(system, wish)
        self.assertEqual(possible_answers(system, wish), tuple(answers))
        for answer in answers:
            good = plain.good_sets(system, log, wish, answer)
            self.assertEqual(good_sets(system, log, wish, answer, most=MANY), good)
            given = can_give(system, log, wish, answer, most=MANY)
            self.assertIs(given, plain.is_fine(system, plain.with_answer(log, wish, answer)))
        self.assertEqual(releases(system, log, wish, most=MANY), plain.releases(system, log, wish))
        found = status(system, log, wish, most=MANY)
        self.assertEqual(found, plain.status(system, log, wish))
        self.assertEqual((log, wish), before)
        return found

    def test_drawn(self):
        source = random.Random(101)
        found = []
        starts = []
        for _ in range(600):
            system = drawn.system(source, 3)
            log = drawn.fine_log(source, system)
            found.append(self.check(system, log, drawn.wish(source, system, log)))
            starts.append(len(log[0]))
        self.assertGreater(min(found.count(word) for word in ("given", "waits", "later", "never")), 10)
        self.assertGreater(len([many for many in starts if many > 1]), 50)

    def test_all_builders(self):
        source = random.Random(102)
        kinds = drawn.SMALL_KINDS + (cell("a", "b", "c"), counter(4), account(4, 1, 3), pool(3, "a", "b"), stack(2, "a", "b", "c"))
        for kind in kinds:
            for _ in range(12):
                system = (kind, source.choice(kinds))
                log = drawn.fine_log(source, system)
                self.check(system, log, drawn.wish(source, system, log))

    def test_each_wish_of_a_log(self):
        source = random.Random(103)
        for _ in range(25):
            system = drawn.system(source, 2)
            log = drawn.fine_log(source, system)
            for number in plain.opened(log):
                for place, kind in enumerate(system):
                    for operation in kind.operations:
                        self.check(system, log, (number, place, operation))

    def test_each_release_frees(self):
        """A release frees, by what the log is then; what a number less is in does not."""
        source = random.Random(104)
        many = 0
        while many < 60:
            system = drawn.system(source, 3)
            log = drawn.fine_log(source, system, 5)
            wish = drawn.wish(source, system, log)
            for answer, commits, aborts in releases(system, log, wish, most=MANY):
                many += 1
                self.assertTrue(self.frees(system, log, wish, answer, commits, aborts))
                for number in commits + aborts:
                    fewer = [tuple(other for other in part if other != number) for part in (commits, aborts)]
                    self.assertFalse(self.frees(system, log, wish, answer, *fewer))

    def frees(self, system, log, wish, answer, commits, aborts):
        entries = [
            (number, over or number in commits, earlier, row) for number, over, earlier, row in log[1] if number not in aborts
        ]
        return can_give(system, (log[0], tuple(entries)), wish, answer, most=MANY)

    def test_never_stays_never(self):
        """What is never answered is not, whatever others do (as long as the transaction gets no answer)."""
        source = random.Random(105)
        many = 0
        while many < 25:
            system = drawn.system(source, 2)
            log = drawn.fine_log(source, system, 3)
            wish = drawn.wish(source, system, log)
            if status(system, log, wish, most=MANY) != "never":
                continue
            many += 1
            for _ in range(6):
                others = plain.others(log, wish)
                number = source.choice(others) if others else None
                way = source.random()
                if way < 0.3 or number is None:
                    new = max(entry[0] for entry in log[1]) + 1
                    log = (log[0], log[1] + ((new, False, plain.committed(log), ()),)) if len(log[1]) < 5 else log
                elif way < 0.45:
                    log = (log[0], tuple((e[0], True, e[2], e[3]) if e[0] == number else e for e in log[1]))
                else:
                    event = drawn.event(source, system)
                    longer = plain.with_answer(log, (number,) + event[:2], event[2])
                    log = longer if plain.is_fine(system, longer) else log
                self.assertEqual(status(system, log, wish, most=MANY), "never")
