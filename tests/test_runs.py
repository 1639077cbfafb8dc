"""Promise [26]: runs, and orders of them."""

import random
import unittest

import drawn
import plain
import plain_tables
from mustwait.builders import account, cell, queue, switch, tickets
from mustwait.kinds import Kind
from mustwait.runs import is_run, run_order
from values import ANY_VALUES, changed, copied

LINE, PURSE = queue(2, "a", "b"), account(2, 1)
SHOP = (LINE, PURSE)


def did(number, place, operation, answer="ok"):
    return ("did", number, place, operation, answer)


def drawn_run(source, system, numbers, answers):
    """A run in which each transaction gets some answers and then ends at each of its objects, all mixed."""
    left = {}
    for number in numbers:
        row = drawn.row(source, system, answers) or (drawn.event(source, system),)
        word = source.choice(["commit", "commit", "commit", "abort"])
        ends = [(word, number, place) for place in sorted({part[0] for part in row})]
        source.shuffle(ends)
        left[number] = [("did", number) + part for part in row] + ends
    run = []
    while left:
        number = source.choice(list(left))
        many = source.choice([1, 1, 2, 20])
        run += left[number][:many]
        left[number] = left[number][many:]
        if not left[number]:
            del left[number]
    return tuple(run)


class Runs(unittest.TestCase):
    GOOD = (
        (),
        (did(0, 0, "puta"), ("commit", 0, 0)),
        (did(0, 1, "put1"), ("abort", 0, 1)),
        (did(5, 0, "puta"), did(5, 1, "put1"), ("commit", 5, 1), ("commit", 5, 0)),
        (did(10 ** 39, 0, "take", "b"), did(3, 1, "put1"), ("abort", 3, 1), ("commit", 10 ** 39, 0)),
        (did(0, 0, "puta"), did(0, 1, "put1"), ("commit", 0, 0), did(1, 0, "take", "a"), ("commit", 0, 1), ("abort", 1, 0)),
    )
    BAD = (
        # A commit or an abort that is lacking, at one object or at all.
        (did(0, 0, "puta"),), (did(0, 0, "puta"), did(0, 1, "put1"), ("commit", 0, 0)),
        (did(0, 0, "puta"), ("commit", 0, 0), did(1, 0, "puta")),
        # One where there was no answer.
        (("commit", 0, 0),), (("abort", 0, 1),), (did(0, 0, "puta"), ("commit", 0, 1)),
        (did(0, 0, "puta"), ("commit", 0, 0), ("commit", 0, 1)), (did(0, 0, "puta"), ("commit", 0, 0), ("commit", 1, 0)),
        # Twice, or both.
        (did(0, 0, "puta"), ("commit", 0, 0), ("commit", 0, 0)), (did(0, 0, "puta"), ("abort", 0, 0), ("abort", 0, 0)),
        (did(0, 0, "puta"), did(0, 1, "put1"), ("commit", 0, 0), ("abort", 0, 1)),
        (did(0, 0, "puta"), ("commit", 0, 0), ("abort", 0, 0)),
        # An answer behind one, at the same object and at another one.
        (did(0, 0, "puta"), ("commit", 0, 0), did(0, 0, "putb"), ("commit", 0, 0)),
        (did(0, 0, "puta"), ("commit", 0, 0), did(0, 0, "putb")),
        (did(0, 0, "puta"), ("commit", 0, 0), did(0, 1, "put1"), ("commit", 0, 1)),
        (did(0, 0, "puta"), ("abort", 0, 0), did(0, 1, "put1"), ("abort", 0, 1)),
        (("commit", 0, 0), did(0, 0, "puta")),
        # Numbers, objects and events that are none.
        (did(-1, 0, "puta"), ("commit", -1, 0)), (did(True, 0, "puta"), ("commit", True, 0)),
        (did("0", 0, "puta"), ("commit", "0", 0)), (did(None, 0, "puta"), ("commit", None, 0)),
        (did([0], 0, "puta"), ("commit", [0], 0)), (did(0, 2, "puta"), ("commit", 0, 2)),
        (did(0, -1, "put1"), ("commit", 0, -1)), (did(0, False, "puta"), ("commit", 0, False)),
        (did(0, 0, "puta"), ("commit", 0, False)), (did(0, 0, "puta"), ("commit", False, 0)),
        (did(0, 0, "put1"), ("commit", 0, 0)), (did(0, 1, "put1", "no"), ("commit", 0, 1)),
        (did(0, 0, ["puta"]), ("commit", 0, 0)), (did(0, 0, "puta", {}), ("commit", 0, 0)),
        (did(0, [0], "puta"), ("commit", 0, [0])),
        # Things that are none.
        (did(0, 0, "puta"), ("commit", 0, 0, "puta", "ok")), (("do", 0, 0, "puta", "ok"), ("commit", 0, 0)), (("did", 0, 0), ("commit", 0, 0)),
        (did(0, 0, "puta"), ["commit", 0, 0]), [did(0, 0, "puta"), ("commit", 0, 0)], (list(did(0, 0, "puta")), ("commit", 0, 0)),
        (did(0, 0, "puta"), ("commit", 0)), (did(0, 0, "puta"), ("commit", 0, 0, 0)), (did(0, 0, "puta"), ("drop", 0, 0)),
        (("did", 0, 0, "puta"), ("commit", 0, 0)), (did(0, 0, "puta") + ("ok",), ("commit", 0, 0)), ((),), (("begin",),),
        ("commit",), (0,), (None,), (("begin",), did(0, 0, "puta"), ("commit", 0, 0)),
    )

    def test_good_ones(self):
        for run in self.GOOD:
            self.assertIs(is_run(SHOP, run), True, run)

    def test_bad_ones(self):
        for run in self.BAD:
            self.assertIs(is_run(SHOP, run), False, run)

    def test_values_of_all_kinds(self):
        for thing in ANY_VALUES:
            for system in (SHOP, (Kind(()),)):
                self.assertIs(is_run(system, thing), plain_tables.is_run(system, thing))
                self.assertIs(is_run(system, (thing,)), False)

    def test_changed_ones(self):
        source = random.Random(1)
        found = {True: 0, False: 0}
        for _ in range(3000):
            system = drawn.system(source)
            run = drawn_run(source, system, source.sample([0, 1, 2, 10 ** 30], source.randrange(4)), 3)
            self.assertIs(is_run(system, run), True)
            for _ in range(source.randrange(3)):
                run = changed(source, run)
            before = copied(run)
            told = is_run(system, run)
            self.assertIs(told, plain_tables.is_run(system, run), run)
            self.assertEqual(run, before)
            found[told] += 1
        self.assertGreater(min(found.values()), 400)

    def test_long_ones(self):
        run = tuple(thing for at in range(5000) for thing in (did(at, 0, "puta"), ("abort", at, 0)))
        self.assertIs(is_run(SHOP, run), True)
        self.assertIs(is_run(SHOP, run[:-1]), False)

    def test_by_name(self):
        self.assertIs(is_run(system=SHOP, thing=()), True)


class Orders(unittest.TestCase):
    def check(self, system, run):
        order = run_order(system, run)
        if order is None:
            self.assertEqual(plain_tables.run_orders(system, run), [], run)
            return False
        self.assertIsInstance(order, tuple)
        self.assertEqual(sorted(order), plain_tables.committed(run))
        self.assertTrue(plain_tables.is_run_order(system, run, order), (run, order))
        return True

    def test_no_things(self):
        self.assertEqual(run_order(SHOP, ()), ())

    def test_only_aborted_ones(self):
        self.assertEqual(run_order(SHOP, (did(4, 0, "take", "b"), ("abort", 4, 0))), ())

    def test_one(self):
        self.assertEqual(run_order(SHOP, (did(4, 0, "puta"), ("commit", 4, 0))), (4,))
        self.assertIsNone(run_order(SHOP, (did(4, 0, "take", "a"), ("commit", 4, 0))))

    def test_aborted_ones_do_not_count(self):
        run = (did(0, 0, "puta"), did(1, 0, "take", "a"), ("abort", 0, 0), ("commit", 1, 0))
        self.assertIsNone(run_order(SHOP, run))
        self.assertEqual(run_order(SHOP, run[:2] + (("commit", 0, 0), ("commit", 1, 0))), (0, 1))
        self.assertEqual(run_order(SHOP, run[:2] + (("commit", 0, 0), ("abort", 1, 0))), (0,))

    def test_whoever_stands_behind_another_one(self):
        look, turn = (did(0, 0, "look", "off"),), (did(1, 0, "turn"),)
        commits = (("commit", 0, 0), ("commit", 1, 0))
        lights = (switch(), switch())
        self.assertEqual(run_order(lights, turn + look + commits), (0, 1))
        # 1 has committed ahead of the first answer of 0: so 0 stands behind it.
        self.assertIsNone(run_order(lights, turn + commits[1:] + look + commits[:1]))
        # At one object it has, but at the other one it has not yet.
        both = turn + (did(1, 1, "turn"), ("commit", 1, 0)) + look + (("commit", 1, 1), ("commit", 0, 0))
        self.assertEqual(run_order(lights, both), (0, 1))
        # Its last commit counts, not its first one; and the first answer of the other one, not a later one.
        late = look + turn + commits[1:] + (did(0, 0, "look", "off"),) + commits[:1]
        self.assertEqual(run_order(lights, late), (0, 1))

    def test_rings(self):
        letters = (cell("a", "b"), cell("a", "b"))
        got = (did(0, 0, "setb"), did(1, 0, "read", "a"), did(1, 1, "setb"), did(0, 1, "read", "b"))
        ends = (("commit", 0, 0), ("commit", 0, 1), ("commit", 1, 0), ("commit", 1, 1))
        self.assertEqual(run_order(letters, got + ends), (1, 0))
        ring = got[:3] + (did(0, 1, "read", "a"),) + ends
        self.assertIsNone(run_order(letters, ring))

    def test_drawn_ones(self):
        source = random.Random(2)
        found = {True: 0, False: 0}
        for _ in range(1500):
            system = drawn.system(source)
            run = drawn_run(source, system, source.sample([0, 1, 2, 5, 10 ** 30], source.randrange(1, 5)), 2)
            found[self.check(system, run)] += 1
        self.assertGreater(min(found.values()), 300)

    def test_ten_transactions(self):
        source = random.Random(3)
        bank = (account(9, 1),)
        run = []
        for number in range(10):
            run += [did(number, 0, "put1")] * 9 + [did(number, 0, "take1")] * 9
        source.shuffle(run)
        for number in range(10):
            last = max(at for at, thing in enumerate(run) if thing[1] == number)
            run.insert(last + 1, ("commit", number, 0))
        order = run_order(bank, tuple(run))
        if order is not None:
            self.assertTrue(plain_tables.is_run_order(bank, tuple(run), order))
        line = (tickets(10),)
        numbers = list(range(10))
        source.shuffle(numbers)
        got = tuple(did(number, 0, "next", str(at + 1)) for at, number in enumerate(numbers))
        ends = tuple(("commit", number, 0) for number in sorted(numbers))
        self.assertEqual(run_order(line, got + ends), tuple(numbers))
        # All that are open together: only one order of ten fits, or none.
        self.assertEqual(run_order(line, tuple(reversed(got)) + ends), tuple(numbers))
        self.assertIsNone(run_order(line, got[:9] + (did(numbers[9], 0, "next", "9"),) + ends))

    def test_two_hundred_things(self):
        run = ()
        for number in range(9):
            run += tuple(did(number, 0, "put1" if at % 2 == 0 else "take1") for at in range(20)) + (("commit", number, 0),)
        run += (did(9, 0, "put1"), ("commit", 9, 0))
        self.assertEqual(run_order((PURSE,), run), tuple(range(10)))
        self.assertIsNone(run_order((PURSE,), run[:-2] + (did(9, 0, "take1"), ("commit", 9, 0))))

    def test_the_run_stays_as_it_was(self):
        run = (did(0, 0, "puta"), ("commit", 0, 0))
        run_order(system=SHOP, run=run)
        self.assertEqual(run, (did(0, 0, "puta"), ("commit", 0, 0)))
        self.assertEqual(plain.led(LINE, 0, (("puta", "ok"),)), 1)


if __name__ == "__main__":
    unittest.main()
