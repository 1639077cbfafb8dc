"""Promises [14] and [15]: decisions of the four sorts, made and held against the log."""

import random
import unittest

import drawn
import plain
import plainly
from mustwait.builders import account, cell, queue, switch
from mustwait.certificates import decide, decision_holds
from mustwait.errors import TooMany
from mustwait.histories import log_of
from mustwait.kinds import Kind
from mustwait.stories import story
from values import ANY_VALUES, changed, copied

LETTER, PURSE, LINE = cell("a", "b"), account(2, 1), queue(2, "a", "b")
SHOP, PAIR = (LETTER, PURSE), (switch(), switch())
BEGIN = ("begin",)
MANY = 10 ** 9
DAY = (BEGIN, BEGIN, ("did", 0, 0, "setb", "ok"), ("did", 1, 0, "read", "a"), ("did", 1, 1, "put1", "ok"))
CROSS = (BEGIN, BEGIN, ("did", 0, 0, "look", "off"), ("did", 1, 1, "look", "off"), ("did", 0, 1, "turn", "ok"), ("commit", 0))
# A wish of each sort.
GIVEN = (SHOP, log_of(SHOP, DAY), (1, 1, "take1"))
WAITS = (SHOP, log_of(SHOP, DAY), (0, 1, "take1"))
LATER = ((LINE,), log_of((LINE,), (BEGIN, ("commit", 0), BEGIN, BEGIN)), (1, 0, "take"))
NEVER = (PAIR, log_of(PAIR, CROSS), (1, 0, "turn"))
SORTS = {"given": GIVEN, "waits": WAITS, "later": LATER, "never": NEVER}


def opened(number, *row, earlier=()):
    return (number, False, earlier, row)


def done(number, *row, earlier=()):
    return (number, True, earlier, row)


class Decisions(unittest.TestCase):
    def check(self, place, thing, wanted=None):
        """Asks for a value as the words of the document do; tells what they say."""
        says = plainly.decision_holds(*place, thing)
        if wanted is not None:
            self.assertIs(says, wanted)
        before = copied((place[1:], thing))
        self.assertIs(decision_holds(*place, thing), says, thing)
        self.assertEqual((place[1:], thing), before)
        return says


class Making(Decisions):
    def test_the_sorts(self):
        for sort, place in SORTS.items():
            self.assertEqual(plain.status(*place), sort)
            found = decide(*place)
            self.assertEqual(found[0], sort)
            self.check(place, found, True)

    def test_given(self):
        self.assertEqual(decide(*GIVEN), ("given", "ok", (((), (0, 0), (1,)), ((0,), (0, 0), (1, 0)))))
        place = ((LINE,), (((1,), (2,)), (opened(4),)), (4, 0, "take"))
        self.assertEqual(decide(*place), ("given", "a", (((), (1,), (4,)),)))

    def test_waits(self):
        sort, blocks, releases = decide(*WAITS)
        self.assertEqual([block[:2] for block in blocks], [("no", (1,)), ("ok", ())])
        self.assertEqual(releases, (("no", (), (1,)), ("ok", (1,), ())))

    def test_later(self):
        sort, blocks, found = decide(*LATER)
        self.assertEqual([block[0] for block in blocks], ["a", "b"])
        self.assertTrue(plainly.story_holds(*LATER, found))

    def test_never(self):
        sort, refusals = decide(*NEVER)
        self.assertEqual([part[0] for part in refusals], ["ok"])

    def test_the_first_answer_that_can_be_given(self):
        place = ((LETTER,), (((0,), (1,)), (opened(0), opened(1, (0, "setb", "ok")))), (1, 0, "read"))
        self.assertEqual(decide(*place)[:2], ("given", "b"))

    def test_drawn(self):
        source = random.Random(151)
        found = []
        for _ in range(400):
            system = drawn.system(source, 3)
            log = drawn.fine_log(source, system)
            wish = drawn.wish(source, system, log)
            before = copied((log, wish))
            thing = decide(system, log, wish, most=MANY)
            self.assertEqual((log, wish), before)
            self.assertEqual(thing[0], plain.status(system, log, wish))
            if thing[0] == "given":
                answers = plain.possible_answers(system, wish)
                fit = [one for one in answers if plain.is_fine(system, plain.with_answer(log, wish, one))]
                self.assertEqual(thing[1], fit[0])
            self.check((system, log, wish), thing, True)
            found.append(thing[0])
        self.assertGreater(min(found.count(sort) for sort in SORTS), 10)

    def test_by_name(self):
        system, log, wish = GIVEN
        found = decide(most=50, wish=wish, log=log, system=system)
        self.assertIs(decision_holds(thing=found, wish=wish, log=log, system=system), True)


class Changed(Decisions):
    def test_one_sort_in_the_place_of_another(self):
        for one, place in SORTS.items():
            for other in SORTS.values():
                self.check(place, decide(*other), place is other)
            for word in SORTS:
                self.check(place, (word,) + decide(*place)[1:], word == one)

    def test_shapes(self):
        for place in SORTS.values():
            found = decide(*place)
            for thing in (found[:-1], found[:1], (), found + ((),), found[1:], list(found), found[::-1], (found,), None):
                self.check(place, thing, False)
            for at in range(1, len(found)):
                for part in ((), None, [], list(found[at]), found[at] + found[at][-1:], found[at][:-1], 0, True, {}, "okok"):
                    self.check(place, found[:at] + (part,) + found[at + 1:], False)

    def test_any_values(self):
        for place in SORTS.values():
            found = decide(*place)
            for thing in ANY_VALUES:
                self.check(place, thing, False)
                for at in range(len(found)):
                    self.check(place, found[:at] + (thing,) + found[at + 1:], False)
                self.check(place, found[:1] + ((thing,),) * (len(found) - 1), False)

    def test_at_any_place(self):
        source = random.Random(152)
        for place in SORTS.values():
            for _ in range(1500):
                thing = decide(*place)
                for _ in range(source.choice([1, 1, 1, 2, 3])):
                    thing = changed(source, thing)
                self.check(place, thing)

    def test_drawn(self):
        source = random.Random(153)
        for _ in range(250):
            system = drawn.system(source, 3)
            log = drawn.fine_log(source, system, 3)
            wish = drawn.wish(source, system, log)
            found = decide(system, log, wish, most=MANY)
            for _ in range(20):
                self.check((system, log, wish), changed(source, found))


class Given(Decisions):
    def test_any_order_and_any_start(self):
        source = random.Random(154)
        many = 0
        for _ in range(200):
            system = drawn.system(source, 2)
            log = drawn.fine_log(source, system)
            wish = drawn.wish(source, system, log)
            for answer in plain.possible_answers(system, wish):
                longer = plain.with_answer(log, wish, answer)
                parts = []
                for chosen in plain.subsets(plain.others(log, wish)):
                    fitting = plain.orders(system, longer, plain.committed(log) + chosen + (wish[0],))
                    parts.append((chosen,) + source.choice(fitting or [(log[0][0], ())]))
                many += self.check((system, log, wish), ("given", answer, tuple(parts)))
        self.assertGreater(many, 100)

    def test_any_answer_that_can_be_given(self):
        place = ((LINE,), (((1,), (2,)), (opened(4),)), (4, 0, "take"))
        self.check(place, ("given", "a", (((), (1,), (4,)),)), True)
        self.check(place, ("given", "b", (((), (2,), (4,)),)), True)
        self.check(place, ("given", "b", (((), (1,), (4,)),)), False)
        # state 4 has an a, too, but is no start
        self.check(place, ("given", "a", (((), (4,), (4,)),)), False)
        self.check(place, ("given", "c", (((), (1,), (4,)),)), False)
        self.check(place, ("given", ["a"], (((), (1,), (4,)),)), False)

    def test_bools_in_the_place_of_numbers(self):
        self.check(GIVEN, ("given", "ok", (((), (0, 0), (1,)), ((0,), (0, 0), (1, 0)))), True)
        self.check(GIVEN, ("given", "ok", (((), (0, 0), (True,)), ((0,), (0, 0), (1, 0)))), False)
        self.check(GIVEN, ("given", "ok", (((), (0, False), (1,)), ((0,), (0, 0), (1, 0)))), False)
        self.check(GIVEN, ("given", "ok", (((), (0, 0), (1,)), ((False,), (0, 0), (1, 0)))), False)

    def test_outcomes(self):
        one, two = ((), (0, 0), (1,)), ((0,), (0, 0), (1, 0))
        for parts in ((one,), (two,), (two, one), (one, one), (one, two, two), (one, one, two), (), [one, two]):
            self.check(GIVEN, ("given", "ok", parts), False)
        for order in ((0, 1), (1,), (0,), (), (1, 0, 0), (1, 1), (1, 0, 1), [1, 0], (0, 1, 0), (1, 2), (1, -1)):
            self.check(GIVEN, ("given", "ok", (one, ((0,), (0, 0), order))), False)

    def test_behind_what_is_before(self):
        log = (((0,),), (done(1), opened(2, earlier=(1,)), opened(3)))
        place = ((LETTER,), log, (2, 0, "read"))
        one, two = ((), (0,), (1, 2)), ((3,), (0,), (3, 1, 2))
        self.check(place, ("given", "a", (one, two)), True)
        self.check(place, ("given", "a", (one, ((3,), (0,), (1, 2, 3)))), True)
        self.check(place, ("given", "a", (((), (0,), (2, 1)), two)), False)
        self.check(place, ("given", "a", (one, ((3,), (0,), (3, 2, 1)))), False)


class Waits(Decisions):
    def test_any_outcome_that_is_no_good_set(self):
        log = (((0,),), (opened(0, (0, "puta", "ok")), opened(1), opened(2)))
        place = ((LINE,), log, (2, 0, "take"))
        found = decide(*place)
        self.assertEqual(found[2], (("a", (0,), ()),))
        nodes = {}
        for answer in "ab":
            longer = plain.with_answer(log, place[2], answer)
            for chosen in plain.subsets((0, 1)):
                some = (log[0], tuple(entry for entry in longer[1] if entry[0] in chosen + (2,)))
                nodes[answer, chosen] = tuple(sorted(plain.order_nodes((LINE,), some)))
        for one in plain.subsets((0, 1)):
            for other in plain.subsets((0, 1)):
                blocks = (("a", one, nodes["a", one]), ("b", other, nodes["b", other]))
                self.check(place, ("waits", blocks, found[2]), 0 not in one)

    def test_releases(self):
        sort, blocks, releases = decide(*WAITS)
        one, two = releases
        self.check(WAITS, (sort, blocks, (one, two)), True)
        for other in (
            (one,), (two,), (two, one), (), (one, one, two), (one, two, two), [one, two], (one, two, ("ok", (), (1,))),
            (one, ("ok", (1,), (0,))), (one, ("ok", (True,), ())), (one, ("ok", [1], ())), (("no", (), (1,)), ("ok", (), (1,))),
        ):
            self.check(WAITS, (sort, blocks, other), False)

    def test_members_of_nodes(self):
        """Only members of the outcome may be members of nodes, and only steps by them count."""
        sort, blocks, releases = decide(*WAITS)
        more = blocks[1][2] + (((1,), (0, 1)),)
        self.assertEqual(blocks[1], ("ok", (), (((), (0, 0)),)))
        self.check(WAITS, (sort, (blocks[0], ("ok", (), more)), releases), False)
        self.check(WAITS, (sort, (blocks[0], ("ok", (), ((((0,), (0, 1))),))), releases), False)
        self.check(WAITS, (sort, (("no", (1,), blocks[0][2]), blocks[1]), releases), True)
        self.check(WAITS, (sort, (("no", (0,), blocks[0][2]), blocks[1]), releases), False)
        self.check(WAITS, (sort, (("no", (True,), blocks[0][2]), blocks[1]), releases), False)
        self.check(WAITS, (sort, (("no", (1, 1), blocks[0][2]), blocks[1]), releases), False)
        self.check(WAITS, (sort, (("no", (7,), blocks[0][2]), blocks[1]), releases), False)


class Nodes(Decisions):
    """Closed tuples: further nodes, nodes left out, doubled, not ascending, with all of the members."""

    def places(self):
        """Each block of each decision that has nodes: (place, a function that puts other nodes there, nodes, ...)."""
        for place in (WAITS, LATER, NEVER):
            found = decide(*place)
            for at, block in enumerate(found[1]):
                def put(nodes, place=place, found=found, at=at, block=block):
                    blocks = found[1][:at] + (block[:-1] + (nodes,),) + found[1][at + 1:]
                    return (found[0], blocks) + found[2:]
                yield place, put, block[-1]

    def test_left_out_doubled_turned_about(self):
        for place, put, nodes in self.places():
            self.check(place, put(nodes), True)
            for at in range(len(nodes)):
                self.check(place, put(nodes[:at] + nodes[at + 1:]), False)
                self.check(place, put(nodes[:at] + nodes[at:at + 1] + nodes[at:]), False)
                self.check(place, put(nodes[at:] + nodes[:at]), at == 0)
                self.check(place, put(nodes[:at] + (list(nodes[at]),) + nodes[at + 1:]), False)

    def test_further_nodes(self):
        source = random.Random(155)
        found = {True: 0, False: 0}
        for place, put, nodes in self.places():
            system, log, wish = place
            for _ in range(120):
                numbers = [entry[0] for entry in log[1]]
                members = tuple(sorted(source.sample(numbers, source.randrange(len(numbers) + 1))))
                states = tuple(source.randrange(len(kind)) for kind in system)
                if place is NEVER:
                    states = tuple(
                        tuple(sorted(source.sample(range(len(kind)), source.randrange(1, len(kind) + 1)))) for kind in system
                    )
                more = set(nodes) | {(members, states)}
                for _ in range(source.choice([0, 1, 3])):
                    for answer in plain.possible_answers(system, wish):
                        longer = plain.with_answer(log, wish, answer)
                        for node in list(more):
                            step = (plain.story_steps(system, longer, wish[0], node) if place is NEVER
                                    else plain.order_steps(system, longer, node))
                            more |= set(step)
                found[self.check(place, put(tuple(sorted(more))))] += 1
        self.assertGreater(min(found.values()), 40)

    def test_states_and_members(self):
        for place, put, nodes in self.places():
            members, states = nodes[-1]
            for node in (
                (members, states[:-1]), (members, states + states[:1]), (members, list(states)), (list(members), states),
                (members + (99,), states), (members, states, False), (members,), (99, states), (members, 0), (members, ()),
                ((-1,), states), ((True,), states), (None, states), (members, tuple([None] * len(states))),
                (members, tuple([99] * len(states))), (members, tuple([-1] * len(states))), (members, tuple([False] * len(states))),
                (members, tuple([()] * len(states))), (members, tuple([(0, 0)] * len(states))), (members, tuple([(1, 0)] * len(states))),
                (members, tuple([(99,)] * len(states))), (members, tuple([[0]] * len(states))), (members, tuple([(False,)] * len(states))),
            ):
                self.check(place, put(nodes[:-1] + (node,)))
                self.check(place, put(nodes + (node,)))

    def test_a_node_that_has_all_of_the_members(self):
        system, log, wish = LATER
        sort, blocks, found = decide(*LATER)
        ends = ((0, 1), (3,))
        closed = (ends, ((0, 1, 2), (3,)))
        self.check(LATER, (sort, (("a", tuple(sorted(blocks[0][1] + closed))), blocks[1]), found), False)
        part = (((1,), (3,)), ((1, 2), (3,)))
        self.check(LATER, (sort, (("a", tuple(sorted(blocks[0][1] + part))), blocks[1]), found), False)

    def test_many_nodes(self):
        """There may be any number of nodes, far more than a decision is made with."""
        line = queue(3, "a", "b", "c")
        system = (line, line, line)
        log = (((0, 0, 0),), (opened(0),))
        wish = (0, 0, "take")
        sort, blocks, found = decide(system, log, wish)
        spots = [((), (one, two, three)) for one in (0, 39) for two in range(40) for three in range(40)]
        closure = set(spots) | {node for answer in "abc" for spot in spots
                                for node in plain.order_steps(system, plain.with_answer(log, wish, answer), spot)}
        self.assertGreater(len(spots), 3000)
        firsts = tuple(sorted(spot for spot in closure if spot[0] == () and spot[1][0] == 0))
        self.assertIs(decision_holds(system, log, wish, (sort, tuple((w, firsts) for w in "abc"), found)), True)
        self.assertIs(decision_holds(system, log, wish, (sort, tuple((w, tuple(sorted(closure))) for w in "abc"), found)), False)


class Later(Decisions):
    def test_any_story(self):
        system, log, wish = LATER
        sort, blocks, found = decide(*LATER)
        for steps in (
            ((0, ()), (None, ((0, "puta", "ok"),)), (1, ((0, "take", "a"),))),
            ((0, ()), (2, ((0, "putb", "ok"),)), (1, ((0, "take", "b"),))),
            ((0, ()), (None, ((0, "putb", "ok"),)), (1, ((0, "take", "b"),)), (2, ())),
        ):
            self.check(LATER, (sort, blocks, ((0,), steps)), True)
        for steps in (
            ((None, ((0, "puta", "ok"),)), (0, ()), (1, ((0, "take", "a"),))),
            ((0, ()), (2, ((0, "putb", "ok"),)), (1, ((0, "take", "a"),))),
            ((0, ()), (1, ((0, "puta", "ok"), (0, "take", "b")))),
            (),
        ):
            self.check(LATER, (sort, blocks, ((0,), steps)), False)

    def test_not_where_an_answer_waits_or_is_given(self):
        for place in (GIVEN, WAITS):
            answers = plain.possible_answers(place[0], place[2])
            blocks = tuple(
                (answer, tuple(sorted(plain.order_nodes(place[0], plain.with_answer(place[1], place[2], answer)))))
                for answer in answers
            )
            self.check(place, ("later", blocks, story(*place)), False)

    def test_blocks(self):
        sort, (one, two), found = decide(*LATER)
        for blocks in ((one,), (two, one), (one, one), (one, two, two), (), (one, two[:1]), (one, two + ((),)), (one, ("c",) + two[1:])):
            self.check(LATER, (sort, blocks, found), False)
        self.check(LATER, (sort, (one, ("b", one[1])), found), True)


class AnyNumberOfNodes(Decisions):
    def test_releases_where_there_are_very_many_order_nodes(self):
        """What is held against the log may have more order nodes than anything is made with."""
        # Turns that lead elsewhere in each order, and one who puts in what is to be taken.
        turns = Kind(*[tuple((f"turn{n}", "ok", (n * state + n * n) % 37) for n in range(2, 10)) for state in range(37)])
        system = (turns, turns, turns, queue(1, "a"))
        rows = [((0, f"turn{n}", "ok"), (1, f"turn{(n + 3) % 8 + 2}", "ok"), (2, f"turn{n}", "ok")) for n in range(2, 10)]
        log = (((0, 1, 2, 0),), (opened(0, (3, "puta", "ok")), *[opened(n + 1, *row) for n, row in enumerate(rows)], opened(9)))
        wish = (9, 3, "take")
        with self.assertRaises(TooMany):
            decide(system, log, wish, most=50000)
        alone = (log[0], (opened(9, (3, "take", "a")),))
        nodes = tuple(sorted(plain.order_nodes(system, alone)))
        thing = ("waits", (("a", (), nodes),), (("a", (0,), ()),))
        self.assertIs(decision_holds(system, log, wish, thing), True)
        self.assertIs(decision_holds(system, log, wish, thing[:2] + ((("a", (0, 1), ()),),)), False)
