"""Promises [16], [17] and [19]: a store and its calls, one by one."""

import unittest

import plain
from mustwait.builders import account, cell, counter, permits, pool, queue, stack, switch, tickets
from mustwait.certificates import decision_holds
from mustwait.errors import Full, IsWaiting, Never, NoObject, NoOperation, NotOpen, StoreError, TooMany
from mustwait.histories import is_log
from mustwait.kinds import Kind
from mustwait.stores import Store
from values import ANY_VALUES, DEEP, copied

LETTER, PURSE, LINE = cell("a", "b"), account(2, 1), queue(2, "a", "b")
SHOP = (LETTER, PURSE)
NO_NUMBERS = [thing for thing in ANY_VALUES if type(thing) is not int] + [7, -1, 10 ** 39]


def seen(store):
    """All that can be seen of a store."""
    wishes = tuple(store.wish(number) for number in store.running)
    return (store.log, store.running, store.waiting, store.news, wishes, len(store), tuple(store), store.most, store.system)


class Stores(unittest.TestCase):
    def refuses(self, store, error, attribute, name, *arguments):
        """A call raises an error with its attribute, and changes nothing."""
        before = copied(seen(store))
        with self.assertRaises(error) as caught:
            getattr(store, name)(*arguments)
        self.assertIs(type(caught.exception), error)
        self.assertIsInstance(caught.exception, StoreError)
        self.assertEqual(vars(caught.exception), attribute)
        self.assertEqual(seen(store), before)

    def begun(self, many, *kinds, most=5000):
        store = Store(*kinds, most=most)
        for number in range(many):
            self.assertEqual(store.begin(), number)
        return store


class Making(Stores):
    def test_of_kinds(self):
        store = Store(LETTER, PURSE)
        self.assertEqual((store.system, store.most), (SHOP, 5000))
        self.assertEqual(seen(store), ((((0, 0),), ()), (), (), (), (), 0, (), 5000, SHOP))
        self.assertEqual(vars(store)["system"], SHOP)
        self.assertEqual(vars(store)["most"], 5000)

    def test_of_a_system(self):
        store = Store.of((LINE, LINE, PURSE, LETTER), most=7)
        self.assertEqual((store.system, store.most), ((LINE, LINE, PURSE, LETTER), 7))
        self.assertEqual(store.log, (((0, 0, 0, 0),), ()))
        self.assertEqual(Store.of(system=(LINE,)).most, 5000)
        self.assertEqual(Store(LINE, most=3).most, 3)

    def test_of_a_log(self):
        store = Store.from_log((LINE,), (((4,), (5,)), ()), most=99)
        self.assertEqual((store.system, store.most, store.log), ((LINE,), 99, (((4,), (5,)), ())))
        self.assertEqual((store.running, store.waiting, store.news, len(store)), ((), (), (), 0))
        self.assertEqual(Store.from_log(system=(LINE,), log=(((1,),), ())).begin(), 0)

    def test_stores_are_equal_to_nothing_else(self):
        store = Store(LINE)
        for thing in (None, 0, (), LINE, "", store.log):
            self.assertFalse(store == thing)
        self.assertFalse(LINE == store)
        self.assertTrue(store == store)

    def test_what_can_be_seen_cannot_be_set(self):
        store = Store(LINE)
        for name in ("log", "running", "waiting", "news"):
            with self.assertRaises(AttributeError):
                setattr(store, name, ())


class Beginning(Stores):
    def test_numbers(self):
        store = self.begun(3, LINE)
        self.assertEqual(store.running, (0, 1, 2))
        self.assertIsNone(store.abort(1))
        self.assertEqual(store.begin(), 3)
        self.assertEqual(store.running, (0, 2, 3))
        self.assertIsNone(store.commit(3))
        self.assertEqual(store.begin(), 4)
        self.assertEqual(store.running, (0, 2, 4))

    def test_length_contains_and_iteration(self):
        store = self.begun(3, LETTER)
        store.ask(0, 0, "setb")
        store.commit(0)
        self.assertEqual((len(store), list(store), tuple(store)), (3, [1, 2], (1, 2)))
        self.assertEqual([number in store for number in range(4)], [False, True, True, False])
        for thing in NO_NUMBERS:
            self.assertIs(thing in store, False)
        self.assertEqual(sorted(store, reverse=True), [2, 1])

    def test_who_is_before_whom(self):
        store = self.begun(2, LETTER)
        store.ask(0, 0, "setb")
        store.commit(0)
        self.assertEqual(store.begin(), 2)
        self.assertEqual([entry[:3] for entry in store.log[1]], [(0, True, ()), (1, False, ()), (2, False, (0,))])

    def test_begin_changes_nothing_of_the_news(self):
        store = self.begun(2, LINE)
        store.ask(0, 0, "take")
        store.ask(1, 0, "puta")
        store.commit(1)
        self.assertEqual(store.news, ((0, "a"),))
        store.begin()
        self.assertEqual(store.news, ((0, "a"),))
        self.refuses(store, NotOpen, {"number": 1}, "commit", 1)
        self.assertEqual(store.news, ((0, "a"),))

    def test_ten_entries(self):
        store = self.begun(10, LETTER)
        self.refuses(store, Full, {"holders": ()}, "begin")
        store.abort(4)
        self.assertEqual(store.begin(), 10)
        self.refuses(store, Full, {"holders": ()}, "begin")

    def test_holders(self):
        store = self.begun(1, LETTER)
        for number in range(1, 9):
            store.begin()
            store.ask(number, 0, "setb")
            store.commit(number)
        self.assertEqual((len(store), store.running), (9, (0,)))
        self.assertEqual(store.begin(), 9)
        self.refuses(store, Full, {"holders": (0,)}, "begin")
        store.commit(9)
        self.refuses(store, Full, {"holders": (0,)}, "begin")
        store.abort(0)
        self.assertEqual((len(store), store.log[0]), (0, ((1,),)))
        self.assertEqual(store.begin(), 10)

    def test_several_holders(self):
        store = self.begun(3, LETTER)
        for number in range(3, 8):
            store.begin()
            store.ask(number, 0, "seta")
            store.commit(number)
        self.assertEqual([store.begin(), store.begin()], [8, 9])
        self.refuses(store, Full, {"holders": (0, 1, 2)}, "begin")


class Asking(Stores):
    def test_answers(self):
        store = self.begun(1, LETTER, PURSE)
        self.assertEqual(store.ask(0, 0, "read"), "a")
        self.assertEqual(store.ask(0, 0, "setb"), "ok")
        self.assertEqual(store.ask(0, 0, "read"), "b")
        self.assertEqual([store.ask(0, 1, word) for word in ("take1", "put1", "put1", "put1", "take1")], ["no", "ok", "ok", "full", "ok"])
        self.assertEqual(store.log[1][0][3][:2], ((0, "read", "a"), (0, "setb", "ok")))

    def test_the_first_by_words(self):
        kind = Kind((("ask", "10", 0), ("ask", "9", 0), ("ask", "b", 0)))
        store = self.begun(1, kind)
        self.assertEqual(store.ask(0, 0, "ask"), "10")
        store = Store.from_log((LINE,), (((1,), (2,)), ()))
        store.begin()
        self.assertEqual(store.ask(0, 0, "take"), "a")
        store = Store.from_log((pool(2, "a", "b"),), (((4,),), ()))
        self.assertEqual([store.begin(), store.begin(), store.ask(0, 0, "take"), store.ask(1, 0, "take")], [0, 1, "a", "b"])

    def test_the_first_of_those_that_can_be_given(self):
        # 0 is not known to have committed: to read a both orders are right, b only one.
        store = self.begun(2, LETTER)
        store.ask(0, 0, "setb")
        self.assertEqual(store.ask(1, 0, "read"), "a")
        store.commit(0)
        store.begin()
        self.assertEqual(store.ask(2, 0, "read"), "b")

    def test_waiting_for_transactions(self):
        store = self.begun(2, LINE)
        self.assertEqual(store.ask(0, 0, "puta"), "ok")
        self.assertIsNone(store.ask(1, 0, "take"))
        self.assertEqual((store.waiting, store.wish(1), store.wish(0), store.news), ((1,), (1, 0, "take"), None, ()))
        self.assertEqual(store.why(1)[0], "waits")
        self.assertIsNone(store.commit(0))
        self.assertEqual((store.waiting, store.wish(1), store.news), ((), None, ((1, "a"),)))

    def test_waiting_for_operations(self):
        store = self.begun(2, LINE)
        self.assertIsNone(store.ask(1, 0, "take"))
        self.assertEqual(store.why(1)[0], "later")
        store.ask(0, 0, "putb")
        self.assertEqual((store.news, store.why(1)[0]), ((), "waits"))
        store.commit(0)
        self.assertEqual(store.news, ((1, "b"),))

    def test_never(self):
        store = self.begun(1, tickets(1))
        self.assertEqual(store.ask(0, 0, "next"), "1")
        self.refuses(store, Never, {"number": 0}, "ask", 0, 0, "next")
        self.assertEqual((store.waiting, store.news), ((), ()))
        self.assertIsNone(store.commit(0))

    def test_never_while_waiting(self):
        pair = (switch(), switch())
        store = Store.of(pair)
        for word in ((0, 0, "look"), (1, 1, "look"), (0, 1, "turn")):
            if word[0] not in store:
                store.begin()
                store.begin()
            store.ask(*word)
        self.assertIsNone(store.ask(1, 0, "turn"))
        store.commit(0)
        self.assertEqual((store.news, store.waiting, store.running), (((1, None),), (), (1,)))
        self.refuses(store, Never, {"number": 1}, "ask", 1, 0, "turn")
        self.assertEqual(store.news, ((1, None),))

    def test_an_answer_frees_others(self):
        # What 1 takes out again 2 finds, whether or not 1 commits.
        store = self.begun(2, PURSE, LETTER)
        store.ask(0, 1, "read")
        store.ask(1, 1, "setb")
        store.ask(0, 0, "put1")
        self.assertIsNone(store.ask(1, 0, "take1"))
        self.assertEqual(store.ask(0, 0, "take1"), "ok")
        self.assertEqual((store.news, store.waiting), (((1, "no"),), ()))

    def test_errors_in_their_order(self):
        store = self.begun(2, LINE, PURSE)
        store.ask(0, 0, "take")
        for number in (2, -1, True, False, None, "0", (0,), [0], {}, 10 ** 39):
            for place in (0, 5, None):
                for operation in ("take", "none", None):
                    self.refuses(store, NotOpen, {"number": number}, "ask", number, place, operation)
        for number in (0, 1):
            for place in (2, -1, True, False, None, "0", (0,), [0], {}, 10 ** 39):
                for operation in ("take", "none", None):
                    self.refuses(store, NoObject, {"place": place}, "ask", number, place, operation)
            for operation in ("put1", "a", "", "Take", "take ", None, 0, True, ("take",), ["take"], {"take": 0}, ("take", "a")):
                self.refuses(store, NoOperation, {"operation": operation}, "ask", number, 0, operation)
        self.refuses(store, NoOperation, {"operation": "take"}, "ask", 1, 1, "take")
        for place, operation in ((0, "take"), (0, "puta"), (1, "take1")):
            self.refuses(store, IsWaiting, {"number": 0}, "ask", 0, place, operation)

    def test_any_values(self):
        store = self.begun(1, LINE)
        for thing in NO_NUMBERS:
            self.refuses(store, NotOpen, {"number": thing}, "ask", thing, 0, "take")
            self.refuses(store, NoObject, {"place": thing}, "ask", 0, thing, "take")
            self.refuses(store, NoOperation, {"operation": thing}, "ask", 0, 0, thing)
            for name in ("drop", "commit", "abort"):
                self.refuses(store, NotOpen, {"number": thing}, name, thing)
            self.assertIsNone(store.wish(thing))
            self.assertIsNone(store.why(thing))
        self.assertEqual(store.ask(0, 0, "puta"), "ok")
        self.assertIsNone(Store(*SHOP).wish(DEEP[0]))

    def test_bools_are_no_numbers(self):
        store = self.begun(2, LINE)
        store.ask(0, 0, "take")
        store.ask(1, 0, "take")
        for thing in (True, False):
            self.refuses(store, NotOpen, {"number": thing}, "ask", thing, 0, "take")
            self.refuses(store, NotOpen, {"number": thing}, "commit", thing)
            self.assertIsNone(store.wish(thing))
            self.assertIsNone(store.why(thing))
            self.assertNotIn(thing, store)
        self.assertEqual(store.wish(1), (1, 0, "take"))

    def test_too_many_comes_ahead_of_never(self):
        # One order node, two story nodes: what is asked for comes at no state that is reached.
        kind = Kind((("go", "ok", 1),), (), (("see", "it", 2),))
        store = self.begun(1, kind, most=1)
        self.refuses(store, TooMany, {"most": 1}, "ask", 0, 0, "see")
        store = self.begun(1, kind, most=2)
        self.refuses(store, Never, {"number": 0}, "ask", 0, 0, "see")

    def test_by_name(self):
        store = self.begun(2, LINE)
        self.assertEqual(store.ask(operation="puta", place=0, number=0), "ok")
        self.assertIsNone(store.drop(number=0))
        self.assertIsNone(store.commit(number=0))
        self.assertIsNone(store.abort(number=1))
        self.assertIsNone(store.wish(number=1))
        self.assertIsNone(store.why(number=1))


class Ending(Stores):
    def test_not_open(self):
        store = self.begun(3, LINE)
        store.commit(0)
        store.abort(1)
        for name in ("commit", "abort", "drop"):
            for number in (0, 1, 3, -1, True, None, "2"):
                self.refuses(store, NotOpen, {"number": number}, name, number)

    def test_drop(self):
        store = self.begun(3, LINE)
        store.ask(0, 0, "take")
        store.ask(1, 0, "take")
        self.assertIsNone(store.drop(0))
        self.assertEqual((store.waiting, store.wish(0), store.running), ((1,), None, (0, 1, 2)))
        self.assertIsNone(store.ask(0, 0, "take"))
        self.assertEqual(store.waiting, (1, 0))

    def test_drop_without_a_wish(self):
        store = self.begun(2, LINE)
        store.ask(0, 0, "take")
        store.ask(1, 0, "puta")
        store.commit(1)
        self.assertEqual(store.news, ((0, "a"),))
        self.assertIsNone(store.drop(0))
        self.assertEqual(store.news, ())

    def test_ending_drops(self):
        for name in ("commit", "abort"):
            store = self.begun(2, LINE)
            store.ask(0, 0, "take")
            store.ask(1, 0, "take")
            getattr(store, name)(0)
            self.assertEqual((store.waiting, store.wish(0), store.running, store.news), ((1,), None, (1,), ()))

    def test_an_abort_takes_back(self):
        store = self.begun(1, LINE)
        store.ask(0, 0, "puta")
        store.abort(0)
        self.assertEqual((store.log, len(store)), ((((0,),), ()), 0))

    def test_what_waits_when_another_one_aborts(self):
        store = self.begun(2, permits(1))
        store.ask(0, 0, "get")
        self.assertIsNone(store.ask(1, 0, "get"))
        store.abort(0)
        self.assertEqual((store.news, store.log[1]), (((1, "ok"),), ((1, False, (), ((0, "get", "ok"),)),)))


class News(Stores):
    def test_in_their_order(self):
        store = self.begun(4, permits(2))
        store.ask(0, 0, "get")
        store.ask(0, 0, "get")
        for number in (3, 1, 2):
            self.assertIsNone(store.ask(number, 0, "get"))
        self.assertEqual(store.waiting, (3, 1, 2))
        store.abort(0)
        self.assertEqual((store.news, store.waiting), (((3, "ok"), (1, "ok")), (2,)))
        store.commit(3)
        self.assertEqual((store.news, store.waiting), ((), (2,)))
        store.abort(1)
        self.assertEqual((store.news, store.waiting), (((2, "ok"),), ()))

    def test_from_the_beginning_after_each_answer(self):
        # It is given back only where there is a key: 0 has put it there, and something into the line.
        kind = Kind(
            (("get", "ok", 1), ("key", "ok", 2)), (("key", "ok", 3),), (("get", "ok", 3),), (("back", "ok", 2),),
        )
        store = self.begun(4, kind, LINE)
        for call in ((0, 0, "key"), (0, 1, "puta"), (2, 0, "get")):
            self.assertEqual(store.ask(*call), "ok")
        for call in ((1, 0, "get"), (2, 0, "back"), (3, 1, "take")):
            self.assertIsNone(store.ask(*call))
        self.assertEqual(store.waiting, (1, 2, 3))
        # 1 cannot be answered until 2 is; then it is, ahead of 3.
        store.commit(0)
        self.assertEqual((store.news, store.waiting), (((2, "ok"), (1, "ok"), (3, "a")), ()))

    def test_behind_one_that_goes_on_waiting(self):
        store = self.begun(4, permits(1), LINE)
        store.ask(0, 0, "get")
        store.ask(1, 1, "puta")
        self.assertIsNone(store.ask(2, 0, "get"))
        self.assertIsNone(store.ask(3, 1, "take"))
        store.commit(1)
        self.assertEqual((store.news, store.waiting), (((3, "a"),), (2,)))
        self.assertEqual(store.ask(0, 0, "back"), "ok")
        self.assertEqual((store.news, store.waiting), (((2, "ok"),), ()))

    def test_never_in_news(self):
        store = self.begun(4, tickets(2))
        store.ask(0, 0, "next")
        self.assertIsNone(store.ask(1, 0, "next"))
        self.assertIsNone(store.ask(2, 0, "next"))
        self.assertIsNone(store.ask(3, 0, "next"))
        store.commit(0)
        self.assertEqual((store.news, store.waiting), (((1, "2"),), (2, 3)))
        store.commit(1)
        self.assertEqual((store.news, store.waiting), (((2, None), (3, None)), ()))

    def test_an_answer_and_never_in_one_call(self):
        store = self.begun(4, tickets(1), LINE)
        store.ask(0, 0, "next")
        store.ask(0, 1, "puta")
        for number, place, word in ((1, 0, "next"), (2, 1, "take"), (3, 0, "next")):
            self.assertIsNone(store.ask(number, place, word))
        store.commit(0)
        self.assertEqual((store.news, store.waiting), (((1, None), (2, "a"), (3, None)), ()))

    def test_of_a_call_that_raises(self):
        store = self.begun(2, LINE)
        store.ask(0, 0, "take")
        store.ask(1, 0, "puta")
        store.commit(1)
        news = ((0, "a"),)
        self.assertEqual(store.news, news)
        self.refuses(store, NoOperation, {"operation": "x"}, "ask", 0, 0, "x")
        self.refuses(store, NotOpen, {"number": 1}, "abort", 1)
        self.refuses(store, NotOpen, {"number": 9}, "drop", 9)
        self.assertEqual(store.news, news)
        store.ask(0, 0, "puta")
        self.assertEqual(store.news, ())

    def test_of_a_wish_that_waits(self):
        store = self.begun(3, LINE)
        store.ask(0, 0, "take")
        store.ask(1, 0, "puta")
        store.commit(1)
        self.assertIsNone(store.ask(2, 0, "take"))
        self.assertEqual(store.news, ())


class Folding(Stores):
    def test_behind_an_answer(self):
        store = self.begun(2, LETTER)
        store.ask(0, 0, "setb")
        store.commit(0)
        self.assertEqual(len(store), 2)
        store.begin()
        self.assertEqual(store.ask(2, 0, "read"), "b")
        self.assertEqual(len(store), 3)
        self.assertEqual(store.abort(1), None)
        self.assertEqual(store.log, (((1,),), ((2, False, (), ((0, "read", "b"),)),)))

    def test_an_answer_folds(self):
        # What 1 is told tells that it stands behind 0.
        store = self.begun(2, tickets(3))
        store.ask(0, 0, "next")
        store.commit(0)
        self.assertEqual(store.log[1][0], (0, True, (), ((0, "next", "1"),)))
        self.assertEqual(store.ask(1, 0, "next"), "2")
        self.assertEqual(store.log, (((1,),), ((1, False, (), ((0, "next", "2"),)),)))

    def test_the_state_that_is_first(self):
        kind = Kind((("go", "ok", 2),), (("stay", "ok", 1),), (("stay", "ok", 3),), (("stay", "ok", 2),))
        store = self.begun(1, kind)
        store.ask(0, 0, "go")
        store.ask(0, 0, "stay")
        store.commit(0)
        self.assertEqual(store.log, (((1,),), ()))

    def test_many_one_after_another(self):
        store = Store(LINE, PURSE, LETTER)
        for number in range(60):
            self.assertEqual(store.begin(), number)
            self.assertEqual(store.ask(number, 0, "put" + "ab"[number % 2]), "ok")
            self.assertEqual(store.ask(number, 0, "take"), "ab"[number % 2])
            self.assertEqual(store.ask(number, 1, "put1"), ("ok", "ok", "full")[min(number, 2)])
            self.assertEqual(store.ask(number, 2, "setb"), "ok")
            store.commit(number)
            self.assertEqual(len(store), 0)
        self.assertEqual(store.log, (((0, 2, 1),), ()))

    def test_many_that_overlap(self):
        store = Store(LETTER, LINE)
        for number in range(0, 60, 2):
            self.assertEqual([store.begin(), store.begin()], [number, number + 1])
            self.assertEqual([store.ask(number, 0, "seta"), store.ask(number + 1, 0, "setb")], ["ok", "ok"])
            store.commit(number + 1)
            self.assertEqual(len(store), 2)
            store.commit(number)
            self.assertEqual(store.log, (((0, 0), (1, 0)), ()))

    def test_the_log_is_one(self):
        store = self.begun(3, LINE)
        for call in ((0, 0, "puta"), (1, 0, "putb"), (2, 0, "take")):
            store.ask(*call)
            self.assertIs(is_log((LINE,), store.log), True)


class Limits(Stores):
    def test_when_asked(self):
        # With most nodes at hand the answer is given; with one less it is not, and nothing changes.
        for most, fine in ((4, True), (3, False)):
            store = self.begun(2, LETTER, most=most)
            self.assertEqual(plain.count_orders((LETTER,), store.log, (0, 0, "setb")), [4])
            if fine:
                self.assertEqual(store.ask(0, 0, "setb"), "ok")
            else:
                self.refuses(store, TooMany, {"most": most}, "ask", 0, 0, "setb")

    def test_when_looked_at_again(self):
        # 1 waits; then there are too many nodes to see that it can be given.
        store = self.begun(2, LINE, LETTER, most=11)
        store.ask(0, 0, "puta")
        self.assertIsNone(store.ask(1, 0, "take"))
        while len(store) < 4:
            store.begin()
        store.abort(3)
        store.commit(0)
        self.assertEqual((store.news, store.waiting), (((1, "a"),), ()))
        store = self.begun(2, LINE, LETTER, most=11)
        store.ask(0, 0, "puta")
        self.assertIsNone(store.ask(1, 0, "take"))
        while len(store) < 4:
            store.begin()
        wish = store.wish(1)
        store.commit(0)
        self.assertEqual((store.news, store.waiting, store.wish(1)), ((), (1,), wish))
        with self.assertRaises(TooMany):
            store.why(1)
        with self.assertRaises(TooMany):
            store.knot()
        with self.assertRaises(TooMany):
            store.remedies()
        # As soon as there are few enough, it is looked at again, by the next call.
        store.abort(2)
        self.assertEqual(store.news, ((1, "a"),))

    def test_when_the_log_would_be_folded(self):
        many = len(plain.story_nodes((LETTER,), (((0,),), ((0, True, (), ((0, "setb", "ok"),)),)), None))
        self.assertEqual(many, 3)
        for most, left in ((2, 1), (3, 0)):
            store = self.begun(1, LETTER, most=most)
            self.assertEqual(store.ask(0, 0, "setb"), "ok")
            store.commit(0)
            self.assertEqual(len(store), left)
        # It stays as it is until there are few enough.
        store = self.begun(1, LETTER, most=2)
        store.ask(0, 0, "setb")
        store.commit(0)
        self.assertEqual(store.log, (((0,),), ((0, True, (), ((0, "setb", "ok"),)),)))
        self.assertEqual([store.begin(), store.log[1][1]], [1, (1, False, (0,), ())])
        self.refuses(store, TooMany, {"most": 2}, "ask", 1, 0, "read")

    def test_full_where_nothing_is_folded(self):
        store = Store(LETTER, most=2)
        for number in range(10):
            self.assertEqual(store.begin(), number)
            store.commit(number)
        self.assertEqual(len(store), 10)
        self.refuses(store, Full, {"holders": ()}, "begin")


class FromLogs(Stores):
    def test_open_ones_have_aborted(self):
        log = (((0,),), ((3, True, (), ((0, "puta", "ok"),)), (5, False, (), ((0, "putb", "ok"),))))
        store = Store.from_log((LINE,), log)
        self.assertEqual((store.log, store.running, store.news), ((((1,),), ()), (), ()))
        self.assertEqual(store.begin(), 6)

    def test_numbers_of_new_ones(self):
        one_start = ((0,),)
        for entries, first in (
            ((), 0), (((0, False, (), ()),), 1), (((7, True, (), ()),), 8), (((2, True, (), ()), (10 ** 20, False, (), ())), 10 ** 20 + 1),
            (((4, False, (), ()), (6, True, (), ())), 7),
        ):
            store = Store.from_log((LINE,), (one_start, entries))
            self.assertEqual([store.begin(), store.begin()], [first, first + 1])

    def test_not_folded(self):
        log = (((0,),), ((3, True, (), ((0, "seta", "ok"),)), (5, True, (), ((0, "setb", "ok"),)), (8, False, (3, 5), ())))
        self.assertEqual(Store.from_log((LETTER,), log).log, (((0,), (1,)), ()))
        store = Store.from_log((LETTER,), log, most=2)
        self.assertEqual((store.log, len(store), store.running), ((log[0], log[1][:2]), 2, ()))
        self.assertEqual(store.begin(), 9)
        self.assertEqual(store.log[1][2], (9, False, (3, 5), ()))

    def test_starts_that_are_alike(self):
        kind = Kind((("stay", "ok", 1),), (("stay", "ok", 0),))
        self.assertEqual(Store.from_log((kind,), (((0,), (1,)), ())).log, (((0,),), ()))
        self.assertEqual(Store.from_log((kind,), (((1,),), ())).log, (((0,),), ()))
        self.assertEqual(Store.from_log((kind, LINE), (((1, 4), (1, 5)), ((3, False, (), ()),))).log, (((0, 4), (0, 5)), ()))

    def test_the_log_that_is_passed_stays(self):
        log = (((0,),), ((3, True, (), ((0, "seta", "ok"),)), (8, False, (3,), ())))
        before = copied(log)
        store = Store.from_log((LETTER,), log)
        store.within(lambda number: store.ask(number, 0, "setb"))
        self.assertEqual(log, before)

    def test_of_the_log_of_a_store(self):
        store = self.begun(3, LINE)
        for call in ((0, 0, "puta"), (1, 0, "putb"), (2, 0, "puta")):
            store.ask(*call)
        store.commit(0)
        store.commit(1)
        other = Store.from_log(store.system, store.log, most=store.most)
        self.assertEqual((other.log, other.begin()), ((((4,), (5,)), ()), 3))
        self.assertEqual(store.running, (2,))


class Why(Stores):
    def test_a_decision(self):
        store = self.begun(4, LINE, LETTER)
        store.ask(0, 0, "puta")
        store.ask(1, 0, "take")
        store.ask(2, 0, "take")
        for number in (1, 2):
            wish = store.wish(number)
            self.assertIs(decision_holds(store.system, store.log, wish, store.why(number)), True)
        self.assertIsNone(store.why(0))
        self.assertIsNone(store.why(3))
        self.assertIsNone(store.why(9))
        before = seen(store)
        store.why(1)
        self.assertEqual(seen(store), before)


class Within(Stores):
    def test_commits(self):
        store = Store(LINE)
        told = store.within(lambda number: (number, store.ask(number, 0, "puta"), list(store)))
        self.assertEqual(told, (0, "ok", [0]))
        self.assertEqual((store.log, store.running), ((((1,),), ()), ()))
        self.assertIsNone(store.within(lambda number: None))
        self.assertEqual(store.begin(), 2)

    def test_aborts(self):
        store = Store(LINE)

        def action(number):
            store.ask(number, 0, "puta")
            raise Never(number)

        with self.assertRaises(Never) as caught:
            store.within(action)
        self.assertEqual(caught.exception.number, 0)
        self.assertEqual((store.log, store.running), ((((0,),), ()), ()))

    def test_the_error_itself_goes_on(self):
        store = Store(LINE)
        error = StoreError("mine")

        def action(number):
            raise error

        with self.assertRaises(StoreError) as caught:
            store.within(action)
        self.assertIs(caught.exception, error)
        self.assertEqual(store.running, ())

    def test_one_that_is_not_open_any_more(self):
        store = Store(LINE)

        def aborts(number):
            store.ask(number, 0, "puta")
            store.abort(number)
            return "gone"

        def commits(number):
            store.ask(number, 0, "puta")
            store.commit(number)
            raise Never(number)

        self.assertEqual(store.within(aborts), "gone")
        self.assertEqual(store.log, (((0,),), ()))
        with self.assertRaises(Never):
            store.within(commits)
        self.assertEqual(store.log, (((1,),), ()))

    def test_full(self):
        store = self.begun(10, LINE)
        called = []
        with self.assertRaises(Full):
            store.within(called.append)
        self.assertEqual(called, [])

    def test_one_in_another(self):
        store = Store(LINE)
        self.assertEqual(store.within(lambda one: store.within(lambda other: (one, other, store.running))), (0, 1, (0, 1)))
        self.assertEqual(store.running, ())

    def test_news_of_the_commit(self):
        store = self.begun(1, LINE)
        store.ask(0, 0, "take")
        store.within(lambda number: store.ask(number, 0, "puta"))
        self.assertEqual(store.news, ((0, "a"),))

    def test_by_name(self):
        store = Store(LINE)
        self.assertEqual(store.within(action=lambda number: number), 0)


class Several(Stores):
    def test_stores_do_not_touch_one_another(self):
        one, other = Store(LINE), Store(LINE)
        one.begin()
        one.ask(0, 0, "puta")
        self.assertEqual((other.log, other.running), ((((0,),), ()), ()))
        self.assertEqual(other.begin(), 0)

    def test_all_builders(self):
        for kind in (cell("a"), counter(2), account(3, 1, 2), LINE, stack(2, "a"), pool(2, "a", "b"), switch(), tickets(3), permits(2)):
            store = self.begun(3, kind)
            for number in (0, 1, 2):
                for operation in kind.operations:
                    if number not in store.waiting:
                        try:
                            answer = store.ask(number, 0, operation)
                        except Never as error:
                            self.assertEqual(error.number, number)
                            continue
                        self.assertTrue(answer is not None or number in store.waiting)
            self.assertIs(is_log((kind,), store.log), True)
