"""Promises [16] to [18]: what a store finds by parts of its log is what the whole log tells, and is found once."""

import random
import unittest
from unittest import mock

import drawn
import plain
from mustwait import views, wishes
from mustwait.builders import beside, cell, permits, queue, switch, tickets
from mustwait.errors import TooMany
from mustwait.stores import Store
from mustwait.views import Known, View
from mustwait.wishes import good_sets, possible_answers, releases, status

PAIR = beside(permits(1), permits(1))


def view_of(system, log, most=5000):
    return View(system, log, most, Known(system))


class Parts(unittest.TestCase):
    def check(self, system, log, wish):
        """The verdict and the looks at a wish, held against the whole log."""
        view = view_of(system, log)
        self.assertEqual(view.verdict(wish)[0], status(system, log, wish))
        freed = releases(system, log, wish)
        for look in view.looks_at(wish):
            good = good_sets(system, log, wish, look.answer)
            self.assertEqual(look.can_be_given(), len(good) == 2 ** len(plain.others(log, wish)))
            self.assertEqual(bool(look.goods), bool(good))
            if not freed:
                continue
            for held in plain.subsets(plain.others(log, wish)):
                wanted = any(one[0] == look.answer and not set(held) & set(one[1] + one[2]) for one in freed)
                self.assertEqual(look.frees(held), wanted, (log, wish, held))
        self.check_number(system, log, wish)

    def check_number(self, system, log, wish):
        """TooMany comes just below the number of order nodes of the whole log."""
        many = max(plain.count_orders(system, log, wish))
        view_of(system, log, many).looks_at(wish)
        if many > 1:
            with self.assertRaises(TooMany):
                view_of(system, log, many - 1).looks_at(wish)

    def test_drawn_logs(self):
        source = random.Random(1)
        for _ in range(250):
            system = drawn.system(source, 4)
            log = drawn.fine_log(source, system)
            self.check(system, log, drawn.wish(source, system, log))

    def test_parts_and_starts_that_combine_freely(self):
        system = (queue(1, "a", "b"), permits(2), switch())
        entries = ((0, False, (), ((0, "take", "a"),)), (1, False, (), ((1, "get", "ok"),)), (2, True, (), ()))
        starts = tuple((one, two, 0) for one in (1,) for two in (0, 1))
        for wish in ((0, 0, "puta"), (0, 1, "get"), (1, 0, "take"), (1, 2, "turn")):
            self.check(system, (starts, entries), wish)

    def test_starts_that_tie_the_objects_together(self):
        # Either both lights are on, or neither: so what one tells is known of the other one.
        system = (switch(), switch())
        log = (((0, 0), (1, 1)), ((0, False, (), ((0, "look", "on"),)), (1, False, (), ())))
        for wish in ((1, 1, "look"), (0, 1, "look"), (1, 0, "look")):
            self.check(system, log, wish)
        self.assertEqual(view_of(system, log).verdict((0, 1, "look")), ("given", "on"))

    def test_entries_before_others_tie_parts_together(self):
        system = (cell("a", "b"), switch())
        entries = ((0, True, (), ((0, "setb", "ok"),)), (1, False, (0,), ((1, "look", "off"),)), (2, False, (), ()))
        log = (((0, 0),), entries)
        for wish in ((1, 0, "read"), (2, 0, "read"), (2, 1, "turn")):
            self.check(system, log, wish)

    def test_many_parts(self):
        # Six entries that do not touch: their nodes multiply, though each part has few.
        system = (tickets(9), tickets(9), PAIR)
        rows = [((0, "next", "1"),), ((1, "next", "1"),), ((2, "lget", "ok"),), ((2, "rget", "ok"),), (), ()]
        log = (((0, 0, 0),), tuple((at, False, (), row) for at, row in enumerate(rows)))
        for wish in ((4, 0, "next"), (4, 2, "rback"), (0, 1, "next"), (2, 2, "rget")):
            self.check(system, log, wish)


class Once(unittest.TestCase):
    """The work that small stores take, counted: no time is measured here."""

    def counted(self, store, calls):
        made = []
        real = wishes.OrderNodes

        def counting(*rest):
            found = real(*rest)
            made.append(found.many)
            return found

        with mock.patch.object(wishes, "OrderNodes", counting), mock.patch.object(views, "OrderNodes", counting):
            for name, *rest in calls:
                getattr(store, name)(*rest)
        return len(made), sum(made)

    def test_three_objects(self):
        store = Store(PAIR, PAIR, PAIR)
        calls = [("begin",)] * 6
        for place in range(3):
            one, two = 2 * place, 2 * place + 1
            calls += [("ask", one, place, "lget"), ("ask", two, place, "rget")]
            calls += [("ask", one, place, "rget"), ("ask", two, place, "lget")]
        calls += [("knot",), ("remedies",), ("abort", 0), ("knot",), ("remedies",)]
        times, nodes = self.counted(store, calls)
        self.assertLess(times, 150)
        self.assertLess(nodes, 600)

    def test_a_crowd_at_one_object(self):
        store = Store(PAIR)
        calls = [("begin",)] * 5 + [("ask", 0, 0, "lget"), ("ask", 1, 0, "rget"), ("ask", 0, 0, "rget")]
        calls += [("ask", 1, 0, "lget"), ("ask", 2, 0, "lget"), ("ask", 3, 0, "rget"), ("ask", 4, 0, "lget")]
        calls += [("knot",), ("remedies",)]
        times, nodes = self.counted(store, calls)
        self.assertLess(times, 80)
        self.assertLess(nodes, 400)

    def test_what_is_known_is_not_looked_at_again(self):
        store = Store(PAIR)
        calls = [("begin",)] * 2 + [("ask", 0, 0, "lget"), ("ask", 1, 0, "rget"), ("ask", 0, 0, "rget"), ("ask", 1, 0, "lget")]
        for name, *rest in calls:
            getattr(store, name)(*rest)
        self.assertEqual(store.knot(), (0, 1))
        self.assertEqual(self.counted(store, [("knot",), ("knot",)]), (0, 0))

    def test_a_long_day_forgets(self):
        store = Store(cell("a", "b"), tickets(20))
        with mock.patch.object(views, "MOST_KNOWN", 20):
            for _ in range(60):
                number = store.begin()
                self.assertEqual(store.ask(number, 0, "setb"), "ok")
                store.commit(number)
                known = store.view.known
                self.assertLess(len(known.looks) + len(known.counts), 40)

    def test_all_answers_are_looked_at(self):
        system = (PAIR, cell("a", "b", "c"))
        log = (((0, 0),), ((0, False, (), ()),))
        looks = view_of(system, log).looks_at((0, 1, "read"))
        self.assertEqual([look.answer for look in looks], list(possible_answers(system, (0, 1, "read"))))


if __name__ == "__main__":
    unittest.main()
