"""Promises [3] and [16] to [19] of whole stores: beside plain ones, and beside the history that they make."""

import random
import unittest

import drawn
import plain
from mustwait.builders import account, cell, permits, queue, switch
from mustwait.certificates import decision_holds, lot_certificate, lot_holds
from mustwait.errors import StoreError
from mustwait.histories import log_of
from mustwait.orders import is_fine, is_sound
from mustwait.stores import Store
from mustwait.wishes import status
from plain_store import ALL, PlainStore
from values import copied

TIGHT = (permits(1), permits(2), queue(1, "a"), queue(2, "a"), account(1, 1), cell("a", "b"), switch())


def drawn_system(source):
    if source.random() < 0.6:
        return drawn.system(source, 3)
    return tuple(source.choice(TIGHT) for _ in range(3))


def drawn_call(source, store, system, most):
    """A call of a store, by its name and arguments; most transactions at a time."""
    way = source.random()
    if not store.running or way < 0.2 and len(store.log[1]) < most:
        return ("begin",)
    if way < 0.42:
        return (source.choice(("commit", "commit", "commit", "abort", "drop")), source.choice(store.running))
    free = [number for number in store.running if number not in store.waiting] or store.running
    place = source.randrange(len(system))
    return ("ask", source.choice(free), place, source.choice(system[place].operations))


def outcome_of(store, name, *arguments):
    """What a call returns, or the error that it raises."""
    try:
        return ("told", getattr(store, name)(*arguments))
    except StoreError as error:
        return (type(error).__name__, vars(error))


def seen(store):
    return (store.log, store.running, store.waiting, store.news)


class BesidePlainStores(unittest.TestCase):
    def run_beside(self, source, system, one, other, calls, most=4):
        """Both get the same calls, and do the same; counts what comes of them."""
        found = {}
        for _ in range(calls):
            call = drawn_call(source, other, system, most)
            if call == ("begin",) and len(other.log[1]) >= most:
                break
            told = outcome_of(one, *call)
            self.assertEqual(told, outcome_of(other, *call), call)
            self.assertEqual(seen(one), seen(other))
            sort = call[0] if told[0] == "told" else told[0]
            sort = "waits" if told == ("told", None) and call[0] == "ask" else sort
            found[sort] = found.get(sort, 0) + 1
            if one.news:
                found["news"] = found.get("news", 0) + 1
            if len(one.waiting) > 1:
                knot = outcome_of(one, "knot")
                self.assertEqual(knot, outcome_of(other, "knot"))
                if knot == ("told", ()):
                    self.assertEqual(one.remedies(), ())
                else:
                    self.assertEqual(outcome_of(one, "remedies"), outcome_of(other, "remedies"))
                    found["knot"] = found.get("knot", 0) + 1
        return found

    def check(self, seed, stores, mosts, *wanted):
        source = random.Random(seed)
        total = {}
        for _ in range(stores):
            system = drawn_system(source)
            most = source.choice(mosts)
            store = Store.of(system, most=most)
            for sort, many in self.run_beside(source, system, store, PlainStore(system, most), 25).items():
                total[sort] = total.get(sort, 0) + many
        for sort in wanted:
            self.assertGreater(total.get(sort, 0), 5, sort)

    def test_drawn(self):
        self.check(161, 120, [ALL], "ask", "waits", "Never", "IsWaiting", "news", "commit", "abort", "drop", "knot")

    def test_few_nodes(self):
        self.check(162, 120, [4, 10, 25, 60], "ask", "waits", "TooMany", "news", "commit", "abort")

    def test_from_a_log_at_each_moment(self):
        source = random.Random(163)
        for _ in range(40):
            system = drawn_system(source)
            most = source.choice([ALL, 12])
            store = Store.of(system, most=most)
            for _ in range(12):
                outcome_of(store, *drawn_call(source, store, system, 4))
                log = store.log
                before = copied(log)
                one, other = Store.from_log(system, log, most=most), PlainStore.from_log(system, log, most)
                self.assertEqual(log, before)
                self.assertEqual(seen(one), seen(other))
                self.assertEqual((one.running, one.waiting, one.news), ((), (), ()))
                if len(one) < 3:
                    self.run_beside(source, system, one, other, 6)

    def test_drawn_logs(self):
        source = random.Random(164)
        for _ in range(60):
            system = drawn.system(source, 2)
            log = drawn.fine_log(source, system)
            self.run_beside(source, system, Store.from_log(system, log, most=ALL), PlainStore.from_log(system, log), 12)


class Guarantee(unittest.TestCase):
    def drive(self, source, system, calls, look):
        """Calls a store, and passes it on behind each call with the whole history."""
        store = Store.of(system)
        history = ()
        for _ in range(calls):
            call = drawn_call(source, store, system, 4)
            if call == ("begin",) and len(log_of(system, history)[1]) >= 5:
                break
            wish = store.wish(call[1]) if call[0] != "begin" else None
            waiting = {number: store.wish(number) for number in store.waiting}
            told = outcome_of(store, *call)
            history += self.things(call, told, store.news if call[0] != "begin" else (), waiting)
            look(store, history, call, told, wish)
        return history

    def things(self, call, told, news, waiting):
        """The things of a history that a call makes."""
        if told[0] != "told":
            return ()
        things = ()
        if call[0] in ("begin", "commit", "abort"):
            things = (call,)
        elif call[0] == "ask" and told[1] is not None:
            things = (("did",) + call[1:] + (told[1],),)
        return things + tuple(("did",) + waiting[number] + (answer,) for number, answer in news if answer is not None)

    def test_each_outcome_has_an_order(self):
        source = random.Random(165)

        def look(store, history, call, told, wish):
            self.assertTrue(is_fine(store.system, log_of(store.system, history)))
            self.assertTrue(plain.is_fine(store.system, store.log))

        for _ in range(60):
            system = drawn_system(source)
            self.assertTrue(is_sound(system, self.drive(source, system, 25, look)))

    def test_what_is_held_back_would_break_an_outcome(self):
        """Also by the whole history: so what is forgotten changes no answer."""
        source = random.Random(166)
        many = {"waits": 0, "later": 0, "never": 0, "given": 0}

        def look(store, history, call, told, wish):
            log = log_of(store.system, history)
            for number in store.waiting:
                wish = store.wish(number)
                for answer in plain.possible_answers(store.system, wish):
                    self.assertFalse(plain.is_fine(store.system, plain.with_answer(log, wish, answer)))
                found = store.why(number)
                self.assertIs(decision_holds(store.system, store.log, wish, found), True)
                self.assertEqual(status(store.system, log, wish, most=ALL), found[0])
                many[found[0]] += 1
            if told[0] == "Never":
                self.assertEqual(plain.status(store.system, log, call[1:]), "never")
                self.assertEqual(plain.status(store.system, store.log, call[1:]), "never")
                many["never"] += 1

        for _ in range(60):
            self.drive(source, drawn_system(source), 25, look)
        self.assertGreater(min(many["waits"], many["later"], many["never"]), 20)
        self.assertEqual(many["given"], 0)

    def test_what_is_never_answered_stays_so(self):
        source = random.Random(167)
        found = []

        def look(store, history, call, told, wish):
            for number, place, operation in list(never):
                if number not in store or call[:2] == ("ask", number) and told[0] == "told" and told[1] is not None:
                    never.remove((number, place, operation))
                elif number in store and number not in store.waiting:
                    self.assertEqual(outcome_of(store, "ask", number, place, operation), ("Never", {"number": number}))
                    found.append(number)
            if told[0] == "Never":
                never.append(call[1:])

        for _ in range(60):
            never = []
            self.drive(source, drawn_system(source), 25, look)
        self.assertGreater(len(found), 30)

    def test_what_is_forgotten_changes_nothing(self):
        """Beside a store that is not folded."""
        source = random.Random(168)
        shorter = 0
        for _ in range(80):
            system = drawn_system(source)
            one, other = Store.of(system, most=ALL), PlainStore(system, folds=False)
            for _ in range(20):
                call = drawn_call(source, other, system, 4)
                if call == ("begin",) and len(other.log[1]) >= 4:
                    break
                self.assertEqual(outcome_of(one, *call), outcome_of(other, *call))
                self.assertEqual(seen(one)[1:], seen(other)[1:])
                shorter += len(one.log[1]) < len(other.log[1])
        self.assertGreater(shorter, 100)

    def test_what_has_settled_has_a_certificate(self):
        source = random.Random(169)
        for _ in range(60):
            system = drawn.system(source, 2)
            log = drawn.walked(source, system, 14)
            found = lot_certificate(system, log, most=ALL)
            self.assertIs(lot_holds(system, log, found), True)
            store = Store.from_log(system, (log[0], tuple(entry for entry in log[1] if entry[1])))
            self.assertEqual(len(store), 0)


class ManyCalls(unittest.TestCase):
    def test_four_hundred_calls_with_ten_at_a_time(self):
        source = random.Random(170)
        system = (cell("a", "b"), account(5, 1, 2), queue(3, "a", "b"), switch())
        store = Store.of(system)
        told = {}
        for _ in range(400):
            found = outcome_of(store, *drawn_call(source, store, system, 11))
            told[found[0]] = told.get(found[0], 0) + 1
            if found[0] == "Full":
                self.assertEqual(outcome_of(store, "commit", store.running[0])[0], "told")
            self.assertLessEqual(len(store), 10)
        self.assertGreater(told["told"], 200)
        self.assertTrue(is_fine(system, store.log))
