"""Promise [27]: the sorts of the pairs of the tables, and runs that fail as they tell."""

import random
import unittest

import plain
import plain_tables
from mustwait.builders import account, cell, counter, permits, pool, queue, stack, switch, tickets
from mustwait.kinds import Kind
from mustwait.runs import failing_run, is_run, run_order, sort_of
from mustwait.tables import aside, in_place
from test_tables import BUILT, BY_HAND, drawn_kind

SMALL = account(1, 1)
FULL, PUT, NO, TAKE = SMALL.events
TABLES = {"in place": in_place, "aside": aside}


def lets(kind, way, pairs, run):
    """Whether all answers of a run are let by a table, where each object goes its own way, as [25] tells it."""
    for at, thing in enumerate(run):
        if thing[0] == "did" and not lets_answer(kind, way, pairs, [one for one in run[:at] if one[0] == "did" and one[2] == thing[2] or one[0] != "did" and one[2] == thing[2]], thing):
            return False
    return True


def lets_answer(kind, way, pairs, before, thing):
    """Whether an answer is let behind what came to its object."""
    aborted = [one[1] for one in before if one[0] == "abort"]
    closed = [one[1] for one in before if one[0] == "commit"]
    got = [one for one in before if one[0] == "did"]
    for one in got:
        if one[1] != thing[1] and one[1] not in aborted + closed and (thing[3:], one[3:]) in pairs:
            return False
    if way == "in place":
        events = [one[3:] for one in got if one[1] not in aborted]
    else:
        events = [one[3:] for number in closed + [thing[1]] for one in got if one[1] == number]
    return plain.led(kind, 0, events + [thing[3:]]) is not None


class Sorts(unittest.TestCase):
    def test_the_example(self):
        self.assertEqual(
            [sort_of(SMALL, "in place", FULL, PUT), sort_of(SMALL, "in place", PUT, NO), sort_of(SMALL, "aside", PUT, PUT)],
            ["abort", "ring", "commit"],
        )

    def test_built_ones(self):
        for kind in BUILT + BY_HAND:
            for way, table in TABLES.items():
                for p, q in table(kind):
                    self.assertEqual(sort_of(kind, way, p, q), plain_tables.sort_of(kind, way, p, q), (kind.text, p, q))

    def test_drawn_ones(self):
        source = random.Random(1)
        found = {}
        for _ in range(250):
            kind = drawn_kind(source)
            for way, table in TABLES.items():
                for p, q in table(kind)[:20]:
                    told = sort_of(kind, way, p, q)
                    self.assertEqual(told, plain_tables.sort_of(kind, way, p, q))
                    found[way, told] = found.get((way, told), 0) + 1
        self.assertEqual(len(found), 4)
        self.assertGreater(min(found.values()), 50)

    def test_states_that_are_not_reached_do_not_count(self):
        # At state 2 p is not legal, but becomes so behind q: no sequence leads there.
        kind = Kind(
            (("p", "x", 1), ("q", "x", 1)), (("p", "x", 1),), (("q", "x", 3),), (("p", "x", 3),),
        )
        p, q = ("p", "x"), ("q", "x")
        self.assertEqual(in_place(kind), plain_tables.table(kind, "in place"))
        self.assertIn((p, q), in_place(kind))
        self.assertEqual(sort_of(kind, "in place", p, q), "ring")

    def test_by_name(self):
        self.assertEqual(sort_of(kind=SMALL, way="in place", p=FULL, q=PUT), "abort")


class FailingRuns(unittest.TestCase):
    def check(self, kind, way, p, q, most=3):
        run = failing_run(kind, way, p, q)
        system = (kind, kind) if sort_of(kind, way, p, q) == "ring" else (kind,)
        self.assertTrue(is_run(system, run))
        self.assertTrue(plain_tables.is_run(system, run), run)
        self.assertTrue(plain_tables.is_as_told(kind, way, p, q, run), (kind.text, way, p, q, run))
        self.assertIsNone(run_order(system, run))
        self.assertEqual(plain_tables.run_orders(system, run), [], run)
        answers = sum(thing[0] == "did" for thing in run)
        fewest = plain_tables.fewest_answers(kind, way, p, q, most)
        if fewest is not None:
            self.assertEqual(answers, fewest, (kind.text, way, p, q, run))
        # No other pair of the table occurs: without this one all is let, and with it it is not.
        pairs = plain_tables.table(kind, way) if len(kind.events) <= 6 else TABLES[way](kind)
        self.assertFalse(lets(kind, way, pairs, run), run)
        self.assertTrue(lets(kind, way, [pair for pair in pairs if pair != (p, q)], run), (kind.text, way, p, q, run))
        return run

    def test_the_example(self):
        run = self.check(SMALL, "aside", PUT, PUT)
        self.assertEqual(len(run), 4)
        self.assertIsNone(run_order((SMALL,), failing_run(SMALL, "in place", FULL, PUT)))

    def test_built_ones(self):
        for kind in BUILT + BY_HAND:
            for way, table in TABLES.items():
                for p, q in table(kind):
                    self.check(kind, way, p, q, 2 if len(kind.events) > 6 else 4)

    def test_drawn_ones(self):
        source = random.Random(2)
        found = {}
        for _ in range(220):
            kind = drawn_kind(source)
            for way, table in TABLES.items():
                for p, q in table(kind)[:12]:
                    run = self.check(kind, way, p, q)
                    numbers = len({thing[1] for thing in run})
                    key = (way, sort_of(kind, way, p, q), numbers)
                    found[key] = found.get(key, 0) + 1
        # With and without a first and a last transaction.
        for way, sort in (("in place", "abort"), ("aside", "commit")):
            self.assertGreater(min(found[way, sort, 2], found[way, sort, 3]), 10)
        for way in TABLES:
            self.assertGreater(min(found[way, "ring", 2], found[way, "ring", 3], found[way, "ring", 4]), 10, found)

    def test_abort(self):
        run = self.check(SMALL, "in place", FULL, PUT)
        one, other = run[0][1], run[1][1]
        self.assertEqual(run[:2], (("did", one, 0) + PUT, ("did", other, 0) + FULL))
        self.assertEqual(sorted(run[2:]), sorted((("commit", other, 0), ("abort", one, 0))))

    def test_a_first_transaction(self):
        run = self.check(SMALL, "in place", NO, TAKE)
        first = run[0][1]
        self.assertEqual(run[:2], (("did", first, 0) + PUT, ("commit", first, 0)))
        self.assertEqual(len(run), 6)

    def test_commit(self):
        run = self.check(permits(1), "aside", ("get", "ok"), ("get", "ok"))
        self.assertEqual([thing[0] for thing in run], ["did", "did", "commit", "commit"])

    def test_rings_without_a_last_one(self):
        run = self.check(SMALL, "in place", PUT, NO)
        one, other = run[0][1], run[1][1]
        self.assertEqual(run[:4], (
            ("did", one, 0) + NO, ("did", other, 0) + PUT, ("did", other, 1) + NO, ("did", one, 1) + PUT,
        ))
        self.assertEqual(len(run), 8)

    def test_rings_with_a_last_one(self):
        # Which word was set last is seen by a reader alone.
        letter = cell("a", "b")
        for way in TABLES:
            run = self.check(letter, way, ("seta", "ok"), ("setb", "ok"))
            last = run[-1][1]
            self.assertEqual(len({thing[1] for thing in run}), 3)
            self.assertEqual([thing[:3] for thing in run[-4:]], [
                ("did", last, 0), ("did", last, 1), ("commit", last, 0), ("commit", last, 1),
            ])

    def test_the_commits_aside(self):
        # put is legal ahead of the answer that there is nothing only behind it: so at each object NO commits first.
        run = self.check(SMALL, "aside", NO, PUT)
        got = {thing[1:3]: thing[3:] for thing in run if thing[0] == "did"}
        for place in (0, 1):
            order = [thing[1] for thing in run if thing[0] == "commit" and thing[2] == place]
            self.assertEqual([got[number, place] for number in order], [NO, PUT])

    def test_the_way_to_the_nearest_state(self):
        # In a long queue of tickets each pair needs the first ones as its head.
        line = tickets(5)
        p = ("next", "5")
        run = self.check(line, "aside", p, p, 5)
        self.assertEqual(sum(thing[0] == "did" for thing in run), 6)

    def test_a_longer_way_to_a_shorter_end(self):
        # At once the two are told apart by three events more; two steps further on they are by none.
        def kind(m_ends):
            rows = [
                (("p", "x", 1), ("q", "x", 2), ("s", "x", 3)), (("q", "x", 4),), (("p", "x", 5),), (("s", "x", 10),),
                (("m", "x", 6),), (("m", "x", 7),), (("m", "x", 8),), (("m", "x", 9),), (), (("m", "x", 8),),
                (("p", "x", 12), ("q", "x", 11)), (("p", "x", 8),), (),
            ]
            if m_ends == 2:
                rows[7] = (("m", "x", 8), ("s", "x", 8))
            return Kind(*rows)

        p, q = ("p", "x"), ("q", "x")
        for way in TABLES:
            run = self.check(kind(3), way, p, q, 4)
            self.assertEqual(sum(thing[0] == "did" for thing in run), 8)
            self.assertEqual(len({thing[1] for thing in run}), 3)
            # With two events more both ways are as short.
            run = self.check(kind(2), way, p, q, 4)
            self.assertEqual(sum(thing[0] == "did" for thing in run), 8)

    def test_large_kinds(self):
        source = random.Random(3)
        events = [(operation, answer) for operation in "abcdef" for answer in "xy"]
        for share in (0.5, 0.95):
            kind = Kind(*[
                tuple(event + (source.randrange(40),) for event in events if source.random() < share) for _ in range(40)
            ])
            for way, table in TABLES.items():
                for p, q in source.sample(table(kind), 8):
                    run = failing_run(kind, way, p, q)
                    self.assertTrue(plain_tables.is_as_told(kind, way, p, q, run))
                    self.assertEqual(plain_tables.run_orders((kind, kind), run), [])

    def test_more_builders(self):
        for kind in (counter(3), account(3, 1, 2), stack(2, "a"), pool(2, "a", "b"), queue(3, "a"), switch()):
            for way, table in TABLES.items():
                for p, q in table(kind):
                    self.check(kind, way, p, q, 2)

    def test_by_name(self):
        self.assertEqual(failing_run(kind=SMALL, way="aside", p=PUT, q=PUT), failing_run(SMALL, "aside", PUT, PUT))


if __name__ == "__main__":
    unittest.main()
