"""Promises [25] and [28]: tables in place, aside and of stamps, safe sets, modes."""

import random
import unittest

import drawn
import plain_controls
import plain_tables
from mustwait.builders import account, beside, cell, counter, permits, pool, queue, stack, switch, tickets
from mustwait.errors import TooMany
from mustwait.histories import log_of
from mustwait.kinds import Kind
from mustwait.orders import is_fine
from mustwait.tables import aside, in_place, modes, safe_sets, stamp_table
from values import random_states

SMALL = account(1, 1)
FULL, PUT, NO, TAKE = SMALL.events
BUILT = (
    SMALL, account(2, 1), account(3, 1, 2), cell("a", "b"), cell("a", "b", "c"), counter(2), permits(1), permits(2),
    pool(2, "a", "b"), queue(2, "a", "b"), stack(2, "a", "b"), switch(), tickets(3), tickets(0), account(2),
    beside(switch(), permits(1)), beside(permits(1), permits(1)),
)
# A state that is not reached, one without events, several answers of one operation, alike states.
BY_HAND = (
    Kind(()),
    Kind((("go", "on", 0),), (("go", "on", 0), ("stay", "on", 1))),
    Kind((("a", "x", 1), ("a", "y", 2)), (("b", "x", 3),), (("b", "x", 3),), ()),
    Kind((("a", "x", 1), ("b", "x", 2)), (("b", "x", 3),), (("a", "x", 3),), (("a", "x", 3), ("b", "x", 3))),
    Kind((("a", "x", 0), ("b", "x", 1)), (("a", "x", 1), ("b", "x", 0))),
    Kind((("a", "x", 1), ("b", "x", 2)), (("b", "x", 1),), (("a", "x", 2), ("b", "x", 0))),
)


def drawn_kind(source):
    if source.random() < 0.4:
        return drawn.kind_with_events(source)
    words = source.sample("abc", source.randrange(1, 3))
    states = random_states(source, source.randrange(1, 7), words, source.choice([0.2, 0.4, 0.5, 0.7, 0.9]))
    return Kind.of(states)


def ring_of_dangers(many):
    """A kind with an event p that has so many greatest safe sets: each two other events are not safe together."""
    names = "abcdefghij"[:many]
    head = (("p", "ok", 1),) + tuple((name, "ok", 2) for name in names)
    head = tuple(sorted(head))
    second = tuple((name, "ok", 3 + at) for at, name in enumerate(names))
    free = tuple((name, "ok", 2) for name in names)
    return Kind(head, second, free, *[((name, "ok", 3 + at),) for at, name in enumerate(names)])


class Pairs(unittest.TestCase):
    def check(self, kind):
        self.assertEqual(in_place(kind), plain_tables.table(kind, "in place"), kind.text)
        self.assertEqual(aside(kind), plain_tables.table(kind, "aside"), kind.text)

    def test_the_example(self):
        self.assertEqual(in_place(SMALL), ((FULL, PUT), (PUT, NO), (PUT, TAKE), (NO, TAKE), (TAKE, FULL), (TAKE, PUT)))
        self.assertEqual(aside(SMALL), ((FULL, TAKE), (PUT, PUT), (PUT, NO), (NO, PUT), (TAKE, FULL), (TAKE, TAKE)))

    def test_built_ones(self):
        for kind in BUILT:
            self.check(kind)

    def test_ones_by_hand(self):
        for kind in BY_HAND:
            self.check(kind)

    def test_drawn_ones(self):
        source = random.Random(1)
        for _ in range(400):
            kind = drawn_kind(source)
            if len(kind.events) <= 6:
                self.check(kind)

    def test_twelve_events_and_forty_states(self):
        source = random.Random(2)
        events = [(operation, answer) for operation in "abcdef" for answer in "xy"]
        rows = [
            tuple(event + (source.randrange(40),) for event in events if source.random() < 0.9) for _ in range(40)
        ]
        self.check(Kind(*rows))

    def test_no_events(self):
        self.assertEqual([in_place(Kind(())), aside(Kind(()))], [(), ()])

    def test_an_event_against_itself(self):
        event = ("next", "1")
        self.assertEqual([(event, event) in in_place(tickets(2)), (event, event) in aside(tickets(2))], [False, True])

    def test_in_place_has_an_order(self):
        # Whoever puts while another one has been told that there is nothing changes what that one was told.
        purse = account(2, 1)
        self.assertIn((("put1", "ok"), ("take1", "no")), in_place(purse))
        self.assertNotIn((("take1", "no"), ("put1", "ok")), in_place(purse))
        self.assertIn((("take1", "no"), ("put1", "ok")), aside(purse))

    def test_by_name(self):
        self.assertEqual([in_place(kind=SMALL), aside(kind=SMALL)], [in_place(SMALL), aside(SMALL)])


class SafeSets(unittest.TestCase):
    def test_the_example(self):
        self.assertEqual(safe_sets(SMALL, PUT), ((FULL, TAKE),))

    def test_built_ones(self):
        for kind in BUILT + BY_HAND:
            if len(kind.events) <= 8:
                for event in kind.events:
                    self.assertEqual(safe_sets(kind, event), plain_tables.safe_sets(kind, event), kind.text)

    def test_drawn_ones(self):
        source = random.Random(3)
        several = 0
        for _ in range(150):
            kind = drawn_kind(source)
            if len(kind.events) <= 6:
                for event in kind.events:
                    told = safe_sets(kind, event)
                    self.assertEqual(told, plain_tables.safe_sets(kind, event), kind.text)
                    several += len(told) > 1
        self.assertGreater(several, 10)

    def test_an_event_that_the_kind_does_not_have(self):
        for event in (("look", "off"), ("put1", "no"), ("full", "put1")):
            self.assertEqual(safe_sets(SMALL, event), (SMALL.events,))
        self.assertEqual(safe_sets(Kind(()), ("a", "b")), ((),))
        self.assertEqual(safe_sets(SMALL, ("look", "off"), most=1), (SMALL.events,))

    def test_an_event_that_is_legal_at_no_reached_state(self):
        kind = BY_HAND[1]
        self.assertEqual(safe_sets(kind, ("stay", "on")), (kind.events,))

    def test_the_empty_set(self):
        kind = Kind((("a", "x", 1), ("b", "x", 0)), ())
        self.assertEqual(safe_sets(kind, ("a", "x")), ((),))

    def test_too_many(self):
        for many in (2, 5, 8):
            kind = ring_of_dangers(many)
            event = ("p", "ok")
            found = safe_sets(kind, event, most=many)
            self.assertEqual(len(found), many)
            if many <= 5:
                self.assertEqual(found, plain_tables.safe_sets(kind, event))
            for most in {1, many - 1}:
                with self.assertRaises(TooMany) as caught:
                    safe_sets(kind, event, most=most)
                self.assertEqual(caught.exception.most, most)

    def test_twelve_events(self):
        kind = queue(1, "a", "b", "c", "d", "e", "f")
        self.assertEqual(len(kind.events), 12)
        for event in kind.events:
            for chosen in safe_sets(kind, event):
                self.assertTrue(plain_tables.is_safe(kind, event, chosen))
                for other in kind.events:
                    if other not in chosen:
                        self.assertFalse(plain_tables.is_safe(kind, event, chosen + (other,)))

    def test_by_name(self):
        self.assertEqual(safe_sets(kind=SMALL, event=PUT, most=3), safe_sets(SMALL, PUT))


class Stamps(unittest.TestCase):
    def test_built_ones(self):
        for kind in BUILT + BY_HAND:
            if len(kind.events) <= 8:
                self.assertEqual(stamp_table(kind), plain_tables.stamp_table(kind), kind.text)

    def test_the_first_greatest_one(self):
        kind = ring_of_dangers(3)
        self.assertEqual(safe_sets(kind, ("p", "ok"))[0], (("a", "ok"),))
        source = random.Random(10)
        others = 0
        for _ in range(400):
            kind = drawn_kind(source)
            for event in kind.events if len(kind.events) <= 6 else ():
                first, *rest = safe_sets(kind, event)
                self.assertEqual(stamp_table(kind, ((event, first),)), stamp_table(kind))
                others += sum(stamp_table(kind, ((event, one),)) != stamp_table(kind) for one in rest)
        self.assertGreater(others, 10)

    def test_choices(self):
        source = random.Random(4)
        changed = 0
        for _ in range(300):
            kind = drawn_kind(source)
            if len(kind.events) > 6:
                continue
            choices = []
            for event in source.sample(kind.events, source.randrange(len(kind.events) + 1)):
                chosen = source.choice(safe_sets(kind, event))
                if source.random() < 0.5:
                    chosen = tuple(one for one in chosen if source.random() < 0.6)
                choices.append((event, chosen))
            told = stamp_table(kind, tuple(choices))
            self.assertEqual(told, plain_tables.stamp_table(kind, tuple(choices)))
            changed += told != stamp_table(kind)
        self.assertGreater(changed, 50)

    def test_empty_sets_bar_all(self):
        choices = tuple((event, ()) for event in SMALL.events)
        self.assertEqual(stamp_table(SMALL, choices), tuple((p, q) for p in SMALL.events for q in SMALL.events))

    def test_by_name(self):
        self.assertEqual(stamp_table(kind=SMALL, choices=((PUT, ()),)), stamp_table(SMALL, ((PUT, ()),)))
        self.assertEqual(stamp_table(kind=SMALL, choices=()), stamp_table(SMALL))


class Controls(unittest.TestCase):
    """What only the tables let has an order for each outcome; runs that fail tell that no pair is too many."""

    def check(self, control, seed):
        source = random.Random(seed)
        answers = 0
        for _ in range(120):
            system = drawn.system(source, 2)
            history, running, begun = (), [], 0
            for _ in range(14):
                way = source.random()
                if not running or (way < 0.2 and len(running) < 3):
                    history += (("begin",),)
                    running.append(begun)
                    begun += 1
                elif way < 0.4:
                    number = running.pop(source.randrange(len(running)))
                    history += ((source.choice(["commit", "commit", "abort"]), number),)
                else:
                    thing = ("did", source.choice(running)) + drawn.event(source, system)
                    if plain_controls.lets(control, system, history, thing):
                        history += (thing,)
                        answers += 1
                        self.assertTrue(is_fine(system, log_of(system, history)), (control, history))
        self.assertGreater(answers, 250)

    def test_in_place(self):
        self.check("in place", 5)

    def test_aside(self):
        self.check("aside", 6)

    def test_stamps(self):
        self.check("stamps", 7)


class Modes(unittest.TestCase):
    def test_tables_of_all_ways(self):
        for kind in BUILT:
            if len(kind.events) <= 8:
                for table in (in_place(kind), aside(kind), stamp_table(kind)):
                    self.assertEqual(modes(table, kind.events), plain_tables.modes(table, kind.events))

    def test_a_cell(self):
        # All that write bar the same, however many words there are: but each one for itself in place.
        letter = cell("a", "b", "c")
        self.assertEqual(len(modes(aside(letter), letter.events)), len(plain_tables.modes(aside(letter), letter.events)))
        table = tuple(
            (p, q) for p in letter.events for q in letter.events if "read" not in (p[0], q[0]) or p[0] != q[0]
        )
        self.assertEqual(modes(table, letter.events), (letter.events[:3], letter.events[3:]))

    def test_any_order_of_the_events(self):
        source = random.Random(8)
        for _ in range(300):
            kind = drawn_kind(source)
            events = list(kind.events)
            source.shuffle(events)
            events = tuple(events[:source.randrange(len(events) + 1)])
            table = source.choice([in_place, aside])(kind) if len(kind.events) <= 8 else ()
            self.assertEqual(modes(table, events), plain_tables.modes(table, events))

    def test_events_that_are_not_passed_do_not_count(self):
        table = ((("a", "x"), ("c", "x")),)
        self.assertEqual(modes(table, (("b", "x"), ("a", "x"))), ((("a", "x"), ("b", "x")),))
        self.assertEqual(modes(table, (("c", "x"), ("b", "x"), ("a", "x"))), ((("a", "x"),), (("b", "x"),), (("c", "x"),)))

    def test_rows_and_columns(self):
        e, f = ("e", "x"), ("f", "x")
        for table in (((e, f),), ((f, e),), ((e, e),), ((e, e), (e, f)), ((e, f), (f, f))):
            self.assertEqual(modes(table, (f, e)), ((e,), (f,)))
        for table in ((), ((e, e), (e, f), (f, e), (f, f))):
            self.assertEqual(modes(table, (f, e)), ((e, f),))
        # What each has with itself and with the other differs, although both pairs are there.
        self.assertEqual(modes(((e, f), (f, e)), (e, f)), ((e,), (f,)))

    def test_no_events(self):
        self.assertEqual([modes((), ()), modes(in_place(SMALL), ())], [(), ()])

    def test_drawn_tables(self):
        source = random.Random(9)
        names = [(one, other) for one in "abc" for other in "xy"]
        for _ in range(300):
            table = tuple(sorted({(source.choice(names), source.choice(names)) for _ in range(source.randrange(20))}))
            events = tuple(source.sample(names, source.randrange(len(names) + 1)))
            self.assertEqual(modes(table, events), plain_tables.modes(table, events))

    def test_by_name(self):
        self.assertEqual(modes(table=(), events=(PUT,)), ((PUT,),))


if __name__ == "__main__":
    unittest.main()
