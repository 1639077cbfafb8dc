"""Promise [15], its part on lot certificates, with [13] and [14]."""

import random
import unittest

import drawn
import plain
import plainly
from mustwait.builders import account, cell, queue, switch
from mustwait.certificates import lot_certificate, lot_holds
from mustwait.stories import settled
from values import ANY_VALUES, changed, copied

LETTER, PURSE, LINE = cell("a", "b"), account(2, 1), queue(2, "a", "b")
MANY = 10 ** 9


def opened(number, *row, earlier=()):
    return (number, False, earlier, row)


def done(number, *row, earlier=()):
    return (number, True, earlier, row)


SETA, SETB = (0, "seta", "ok"), (0, "setb", "ok")
# 0 and 1 are settled, in any order; 2 may stand ahead of 3 or behind it.
LOG = (((0,),), (done(0, SETA), done(1, SETB), done(2, earlier=(0, 1)), opened(3, earlier=(0, 1))))
PLACE = ((LETTER,), LOG)


def nodes_for(system, log, lot):
    """The smallest closed tuple for a lot, whether or not it is one."""
    def step(node):
        members, sets, strayed = node
        for goal in plain.story_steps(system, log, None, (members, sets)):
            apart = not set(lot) <= set(goal[0]) and not set(goal[0]) <= set(lot)
            yield goal + (strayed or apart,)

    return tuple(sorted(plain.closure([first + (False,) for first in plain.first_sets(log)], step)))


class Lots(unittest.TestCase):
    def check(self, place, thing, wanted=None):
        says = plainly.lot_holds(*place, thing)
        if wanted is not None:
            self.assertIs(says, wanted)
        before = copied((place[1], thing))
        self.assertIs(lot_holds(*place, thing), says, thing)
        self.assertEqual((place[1], thing), before)
        return says

    def test_ordinary(self):
        found = lot_certificate(*PLACE)
        self.assertEqual(found[0], (0, 1))
        self.check(PLACE, found, True)
        # 0 may be first, and 1 may be: neither strays from a lot of both.
        self.assertFalse(any(node[2] for node in found[1]))

    def test_no_entries(self):
        place = ((LETTER,), (((1,),), ()))
        found = lot_certificate(*place)
        self.assertEqual(found, ((), (((), ((0, 1),), False), ((), ((1,),), False))))
        self.check(place, found, True)

    def test_strayed_nodes(self):
        # 0 stands ahead of 1, for it has found it off: orders that begin with 1 stray, and come to nothing.
        log = (((0,),), (done(0, (0, "look", "off")), done(1, (0, "turn", "ok")), opened(2, earlier=(0,))))
        place = ((switch(),), log)
        found = lot_certificate(*place)
        self.assertEqual(found[0], (0,))
        self.assertEqual([node for node in found[1] if node[2]], [((1,), ((1,),), True)])
        self.check(place, found, True)
        calm = tuple(sorted(node[:2] + (False,) for node in found[1]))
        self.check(place, (found[0], calm), False)

    def test_each_set_of_committed_entries(self):
        for lot in plain.subsets((0, 1, 2)):
            thing = (lot, nodes_for(*PLACE, lot))
            self.check(PLACE, thing, lot in ((), (0, 1)))

    def test_other_entries(self):
        nodes = lot_certificate(*PLACE)[1]
        for lot in ((0, 1, 3), (3,), (1, 0), (0, 0, 1), (0, 1, 7), (False, 1), (0, True), [0, 1], (0, "1"), None, 0, (-1, 0, 1)):
            self.check(PLACE, (lot, nodes), False)
        for lot in ((), (0,), (1,), (0, 1), (0, 1, 2)):
            self.check(PLACE, (lot, nodes))

    def test_shapes(self):
        found = lot_certificate(*PLACE)
        for thing in (found[:1], found[1:], found + ((),), list(found), found[::-1], (), None, (found[0], list(found[1])), (found[0], ())):
            self.check(PLACE, thing, False)
        for thing in ANY_VALUES:
            self.check(PLACE, thing, False)
            self.check(PLACE, (found[0], thing), False)
            self.check(PLACE, (thing, found[1]))
            self.check(PLACE, (found[0], found[1] + (thing,)), False)

    def test_nodes_left_out_doubled_turned_about(self):
        lot, nodes = lot_certificate(*PLACE)
        for at in range(len(nodes)):
            self.check(PLACE, (lot, nodes[:at] + nodes[at + 1:]), False)
            self.check(PLACE, (lot, nodes[:at] + nodes[at:at + 1] + nodes[at:]), False)
            self.check(PLACE, (lot, nodes[at:] + nodes[:at]), at == 0)

    def test_strayed(self):
        lot, nodes = lot_certificate(*PLACE)
        for at, (members, sets, strayed) in enumerate(nodes):
            for other in (not strayed, int(strayed), None, "", "False", (), 2):
                self.check(PLACE, (lot, nodes[:at] + ((members, sets, other),) + nodes[at + 1:]), False)
            self.check(PLACE, (lot, nodes[:at] + ((members, sets),) + nodes[at + 1:]), False)
            self.check(PLACE, (lot, nodes[:at] + (list(nodes[at]),) + nodes[at + 1:]), False)

    def test_further_nodes(self):
        """They may be strayed or not, as long as no strayed one comes to all committed entries."""
        source = random.Random(156)
        found = {True: 0, False: 0}
        lot, nodes = lot_certificate(*PLACE)
        for _ in range(300):
            members = tuple(sorted(source.sample(range(4), source.randrange(5))))
            sets = (source.choice([(0,), (1,), (0, 1)]),)
            more = set(nodes) | {(members, sets, source.random() < 0.5)}
            if source.random() < 0.7:
                while True:
                    steps = set()
                    for one, states, strayed in more:
                        for goal in plain.story_steps(*PLACE, None, (one, states)):
                            apart = not set(lot) <= set(goal[0]) and not set(goal[0]) <= set(lot)
                            steps.add(goal + (strayed or apart,))
                    if steps <= more:
                        break
                    more |= steps
            found[self.check(PLACE, (lot, tuple(sorted(more))))] += 1
        self.assertGreater(min(found.values()), 30)

    def test_a_strayed_further_node_alone(self):
        # Nobody has the states that any row is legal at: so no step leads on from there.
        place = ((LINE,), (((0,),), (done(0, (0, "puta", "ok")), opened(1, earlier=(0,)))))
        lot, nodes = lot_certificate(*place)
        self.assertEqual(lot, (0,))
        for strayed in (True, False):
            more = tuple(sorted(nodes + (((), ((6,),), strayed),)))
            self.check(place, (lot, more), True)
            more = tuple(sorted(nodes + (((1,), ((6,),), strayed),)))
            self.check(place, (lot, more), True)
        whole = ((0, 1), (tuple(range(7)),))
        self.assertIn(whole + (False,), nodes)
        self.check(place, (lot, tuple(sorted(nodes + (whole + (True,),)))), False)

    def test_drawn(self):
        source = random.Random(157)
        lots = []
        for _ in range(250):
            system = drawn.system(source, 3)
            log = drawn.fine_log(source, system)
            before = copied(log)
            found = lot_certificate(system, log, most=MANY)
            self.assertEqual(log, before)
            self.assertEqual(found[0], plain.settled(system, log))
            self.assertEqual(found[0], settled(system, log, most=MANY))
            self.check((system, log), found, True)
            right = plain.lots(system, log)
            for lot in plain.subsets(plain.committed(log)):
                wanted = lot in right
                lots.append(self.check((system, log), (lot, nodes_for(system, log, lot)), wanted))
            for _ in range(10):
                self.check((system, log), changed(source, changed(source, found)))
                self.check((system, log), changed(source, found))
        self.assertGreater(lots.count(True), 50)
        self.assertGreater(lots.count(False), 50)

    def test_by_name(self):
        found = lot_certificate(most=50, log=LOG, system=(LETTER,))
        self.assertIs(lot_holds(thing=found, log=LOG, system=(LETTER,)), True)
