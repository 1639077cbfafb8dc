"""Promise [32]: findings."""

import random
import unittest
from unittest import mock

import drawn
import plain_controls
import plain_findings
from mustwait import findings
from mustwait.builders import account, beside, cell, permits, pool, queue, stack, switch, tickets
from mustwait.certificates import decide, lot_certificate
from mustwait.controls import CONTROLS, separating
from mustwait.errors import TooMany
from mustwait.findings import finding_holds
from mustwait.histories import log_of
from mustwait.joint import joint
from mustwait.kinds import Kind
from mustwait.runs import failing_run
from mustwait.tables import aside, in_place
from test_controls import drawn_history, small_kind
from test_runs import drawn_run
from values import ANY_VALUES, changed, copied

LETTER, LINE, PURSE = cell("a", "b"), queue(2, "a", "b"), account(2, 1)
SHOP = (LETTER, PURSE)
BEGIN = ("begin",)
DAY = (BEGIN, BEGIN, ("did", 0, 0, "setb", "ok"), ("did", 1, 0, "read", "a"), ("did", 1, 1, "put1", "ok"))
LOG = log_of(SHOP, DAY)
WISH = (0, 1, "take1")
LIGHTS = (switch(), switch())
CROSS = (BEGIN, BEGIN, ("did", 0, 0, "look", "off"), ("did", 1, 1, "look", "off"), ("did", 0, 1, "turn", "ok"))
NEVER = log_of(LIGHTS, CROSS + (("commit", 0),))
FAR = Kind((("here", "ok", 0),), (("there", "ok", 1),))


def states_of(system):
    return tuple(kind.states for kind in system)


def decision(system, log, wish):
    return ("decision", states_of(system), log, wish, decide(system, log, wish))


def a_lot(system, log):
    return ("lot", states_of(system), log, lot_certificate(system, log))


def a_joint(kind, states):
    found = joint(kind, states)
    return (found[0], kind.states, states, found)


def fails(kind, way, p, q):
    run = failing_run(kind, way, p, q)
    many = 2 if any(part[2] == 1 for part in run) else 1
    return ("fails", (kind.states,) * many, run)


def held(control, system, history):
    return ("held", control, states_of(system), history)


TWICE = Kind((("go", "ok", 1),), (("go", "ok", 0),), ())
WRITES = (BEGIN, BEGIN, ("did", 0, 0, "seta", "ok"), ("did", 1, 0, "setb", "ok"))
TRUE_ONES = {
    "same": ("same", TWICE.states, TWICE.least.states),
    "given": decision(SHOP, LOG, (0, 0, "read")),
    "waits": decision(SHOP, LOG, WISH),
    "later": decision((LINE,), log_of((LINE,), (BEGIN, BEGIN)), (0, 0, "take")),
    "never": decision(LIGHTS, NEVER, (1, 0, "turn")),
    "lot": a_lot((LINE,), log_of((LINE,), (BEGIN, BEGIN, ("did", 0, 0, "puta", "ok"), ("commit", 0), BEGIN))),
    "joint": a_joint(LINE, (4,)),
    "split": a_joint(LINE, (4, 5)),
    "fails": fails(PURSE, "aside", ("put1", "ok"), ("put1", "ok")),
    "ring": fails(PURSE, "in place", ("put1", "ok"), ("take1", "no")),
    "held": held("cube", (LETTER,), WRITES),
}


class Findings(unittest.TestCase):
    def check(self, thing, wanted=None):
        told = finding_holds(thing)
        self.assertIs(told, plain_findings.holds(thing) if wanted is None else wanted, thing)
        return told


class TrueOnes(Findings):
    def test_each_sort(self):
        self.assertEqual(TRUE_ONES["later"][4][0], "later")
        self.assertEqual(TRUE_ONES["never"][4][0], "never")
        for thing in TRUE_ONES.values():
            self.check(thing, True)
            self.check(thing)

    def test_by_name(self):
        self.assertIs(finding_holds(thing=TRUE_ONES["held"]), True)

    def test_they_stay_as_they_were(self):
        for thing in TRUE_ONES.values():
            before = copied(thing)
            finding_holds(thing)
            self.assertEqual(thing, before)

    def test_same(self):
        for kind in (LETTER, LINE, PURSE, FAR, TWICE, Kind(())):
            self.check(("same", kind.states, kind.least.states), True)
            self.check(("same", kind.least.states, kind.states), True)
            self.check(("same", kind.states, kind.states), True)
        self.check(("same", PURSE.states, account(1, 1).states), False)
        self.check(("same", Kind(()).states, FAR.states), False)

    def test_drawn_decisions_and_lots(self):
        source = random.Random(1)
        for _ in range(150):
            system = drawn.system(source)
            log = drawn.fine_log(source, system, 3)
            wish = drawn.wish(source, system, log)
            thing = decision(system, log, wish)
            self.assertTrue(self.check(thing))
            self.assertTrue(self.check(a_lot(system, log)))
            # Another wish, another log, another sort of decision.
            other = drawn.wish(source, system, log)
            self.check(thing[:3] + (other,) + thing[4:])
            self.check(thing[:2] + (drawn.fine_log(source, system, 3),) + thing[3:])

    def test_drawn_joint_sets(self):
        source = random.Random(2)
        found = {}
        for _ in range(200):
            kind = drawn.kind_with_events(source)
            many = source.randrange(1, len(kind) + 1)
            thing = a_joint(kind, tuple(sorted(source.sample(range(len(kind)), many))))
            self.assertTrue(self.check(thing))
            found[thing[0]] = True
            word = "split" if thing[0] == "joint" else "joint"
            self.check((word,) + thing[1:], False)
            self.check(thing[:3] + ((word,) + thing[3][1:],))
        self.assertEqual(len(found), 2)

    def test_runs(self):
        for kind in (PURSE, LETTER, permits(1), queue(1, "a"), tickets(2)):
            for way, table in (("in place", in_place), ("aside", aside)):
                for p, q in table(kind):
                    self.assertTrue(self.check(fails(kind, way, p, q)))
        source = random.Random(3)
        found = {True: 0, False: 0}
        for _ in range(300):
            system = drawn.system(source)
            run = drawn_run(source, system, source.sample([0, 1, 2, 9], source.randrange(4)), 2)
            found[self.check(("fails", states_of(system), run))] += 1
        self.assertGreater(min(found.values()), 50)

    def test_held(self):
        source = random.Random(4)
        found = {}
        for _ in range(300):
            system = tuple(small_kind(source) for _ in range(source.randrange(1, 3)))
            history = drawn_history(source, system, source.randrange(12), share=0.8)
            for control in CONTROLS:
                at = plain_controls.held_back(control, system, history)
                if at is not None:
                    self.check(held(control, system, history[:at + 1]), True)
                    if at + 1 < len(history):
                        self.check(held(control, system, history), False)
                found[control, self.check(held(control, system, history))] = True
        self.assertEqual(len(found), 10)

    def test_what_separating_tells(self):
        for one in CONTROLS:
            for other in CONTROLS:
                told = separating(LETTER, one, other, 5)
                if told is not None:
                    self.check(held(other, (LETTER,), told), True)
                    self.check(held(one, (LETTER,), told), False)

    def test_systems_of_four(self):
        system = (PURSE, LETTER, LINE, switch())
        log = log_of(system, (BEGIN, BEGIN, ("did", 0, 2, "puta", "ok")))
        self.check(decision(system, log, (1, 2, "take")), True)
        self.check(a_lot(system, log), True)

    def test_large_values(self):
        # What the library returned is valid, whatever its size.
        system = (pool(3, "a", "b", "c"),)
        history = (BEGIN,) * 5 + tuple(("did", at, 0, "put" + "abc"[at], "ok") for at in range(3))
        log = log_of(system, history)
        for wish in ((3, 0, "take"), (4, 0, "puta")):
            self.check(decision(system, log, wish), True)
        self.check(a_lot(system, log), True)


class FalseOnes(Findings):
    def test_values_of_all_kinds(self):
        for thing in ANY_VALUES:
            self.check(thing, False)
            self.check((thing,), False)
            for word in ("same", "decision", "lot", "joint", "split", "fails", "held"):
                self.check((word, thing), False)
                for many in (2, 3, 4, 5):
                    parts = (word,) + (thing,) * many
                    if word != "same" or many != 2:
                        self.check(parts)

    def test_values_at_each_place(self):
        for finding in TRUE_ONES.values():
            for at in range(len(finding)):
                for thing in ANY_VALUES:
                    self.check(finding[:at] + (thing,) + finding[at + 1:])

    def test_shapes(self):
        for finding in TRUE_ONES.values():
            for thing in (
                list(finding), finding[:-1], finding + ((),), finding + finding[-1:], finding[1:], finding[::-1], (finding,),
                (), finding[:1], (finding[0].upper(),) + finding[1:], (finding[0] + " ",) + finding[1:], ([finding[0]],) + finding[1:],
                ({},) + finding[1:], (None,) + finding[1:], (True,) + finding[1:],
            ):
                self.check(thing, False)

    def test_words_of_other_sorts(self):
        for finding in TRUE_ONES.values():
            for word in ("same", "decision", "lot", "joint", "split", "fails", "held", "other"):
                if word != finding[0]:
                    self.check((word,) + finding[1:], False)

    def test_systems(self):
        for name in ("given", "waits", "later", "never", "lot", "fails", "ring"):
            finding = TRUE_ONES[name]
            system = finding[1]
            for other in (
                (), system * 5, [*system], [list(states) for states in system], system[0], (system,), system + (((),),) * 4,
                tuple(Kind.of(states) for states in system), system + ((("a",),),), tuple(map(list, system)), None,
            ):
                self.check(finding[:1] + (other,) + finding[2:], False)
        finding = TRUE_ONES["held"]
        for other in ((), finding[2] * 5, list(finding[2]), finding[2][0], (LETTER,), None):
            self.check(finding[:2] + (other,) + finding[3:], False)
        # One object more that nobody uses is another system, but as right as before.
        self.check(finding[:2] + (finding[2] * 4,) + finding[3:], True)

    def test_a_system_of_no_kinds(self):
        self.check(("lot", (), (((),), ()), ((), (((), (), False),))), False)
        self.check(("fails", (), ()), False)
        for control in CONTROLS:
            self.check(("held", control, (), (BEGIN,)), False)

    def test_kinds_that_are_none(self):
        for name in ("same", "joint", "split"):
            finding = TRUE_ONES[name]
            for other in (
                (), [list(state) for state in finding[1]], Kind.of(finding[1]), finding[1] + ((("A", "ok", 0),),), None,
                finding[1] + ((("go", "ok", 99),),), finding[1] + ((("go", "ok", True),),), finding[1] * 21, 0, "0:",
            ):
                self.check(finding[:1] + (other,) + finding[2:], False)

    def test_logs_that_are_not_fine(self):
        wrong = ((0, 0),), ((0, False, (), ((0, "read", "b"),)),)
        self.check(("decision", states_of(SHOP), wrong, (0, 0, "read"), decide(SHOP, (wrong[0], ((0, False, (), ()),)), (0, 0, "read"))))
        for log in (wrong, LOG[:1], LOG + ((),), (LOG[0], list(LOG[1])), ((), LOG[1]), (((0, False),), LOG[1]), None):
            for name in ("given", "waits"):
                finding = TRUE_ONES[name]
                self.check(finding[:2] + (log,) + finding[3:], False)
        lot = TRUE_ONES["lot"]
        self.check(lot[:2] + ((((0,),), ((0, True, (), ((0, "take", "a"),)),)),) + lot[3:], False)

    def test_wishes_that_are_none(self):
        finding = TRUE_ONES["waits"]
        for wish in (
            (2, 1, "take1"), (-1, 1, "take1"), (False, 1, "take1"), (0, True, "take1"), (0, 2, "take1"), (0, -1, "take1"),
            (0, 1, "take2"), (0, 1, "ok"), (0, 0, "take1"), (0, 1), (0, 1, "take1", "ok"), [0, 1, "take1"], (), None,
            (0, 1, ["take1"]), ("0", 1, "take1"), (None, 1, "take1"), (0, [1], "take1"), ((0,), 1, "take1"),
        ):
            self.check(finding[:3] + (wish,) + finding[4:], False)
        done = log_of(SHOP, DAY + (("commit", 0),))
        self.check(("decision", states_of(SHOP), done, WISH, finding[4]), False)

    def test_states_that_are_none(self):
        for name in ("joint", "split"):
            finding = TRUE_ONES[name]
            for states in ((), (5, 4), (4, 4), [4, 5], (7,), (-1,), (True,), (4, 99), 4, None, ("4",), ((4,),)):
                self.check(finding[:2] + (states,) + finding[3:], False)

    def test_runs_that_do_not_fail(self):
        for run in (
            (), (("did", 0, 0, "put1", "ok"), ("commit", 0, 0)), (("did", 0, 0, "take1", "ok"), ("abort", 0, 0)),
            (("did", 0, 0, "take1", "ok"),), (("commit", 0, 0),),
        ):
            self.check(("fails", (PURSE.states,), run), False)
        self.check(("fails", (PURSE.states,), (("did", 0, 0, "take1", "ok"), ("commit", 0, 0))), True)

    def test_histories_whose_last_thing_is_no_answer(self):
        for control in CONTROLS:
            self.check(held(control, (LETTER,), ()), False)
            self.check(held(control, (LETTER,), (BEGIN,)), False)
            self.check(held(control, (LETTER,), WRITES + (("commit", 0),)), False)
            self.check(held(control, (LETTER,), WRITES + (BEGIN,)), False)

    def test_answers_that_are_not_the_first_one(self):
        wrong = (BEGIN, ("did", 0, 0, "read", "b"), ("did", 0, 0, "read", "b"))
        for control in CONTROLS:
            self.check(held(control, (LETTER,), wrong[:2]), True)
            self.check(held(control, (LETTER,), wrong), False)
            self.check(held(control, (LETTER,), wrong[:1] + (("did", 0, 0, "read", "a"),)), False)

    def test_controls_that_are_none(self):
        for control in ("", "in-place", "In place", "cube ", "stamp", None, 0, ["cube"], ("cube",), {}, True, CONTROLS):
            self.check(held(control, (LETTER,), WRITES), False)

    def test_at_any_place(self):
        source = random.Random(5)
        found = {True: 0, False: 0}
        for finding in TRUE_ONES.values():
            for _ in range(700):
                thing = finding
                for _ in range(source.choice([1, 1, 1, 2, 3])):
                    thing = changed(source, thing)
                before = copied(thing)
                found[self.check(thing)] += 1
                self.assertEqual(thing, before)
        self.assertGreater(found[False], 4000)

    def test_beyond_what_is_promised(self):
        # Nothing is promised of these, but they are answered.
        history = (BEGIN,) * 300 + (("did", 3, 0, "read", "b"),)
        for control in CONTROLS:
            self.assertIs(type(finding_holds(held(control, (LETTER,), history))), bool)
        log = (((0,),), tuple((number, False, (), ((0, "seta", "ok"),)) for number in range(300)))
        self.assertIs(type(finding_holds(("lot", (LETTER.states,), log, ((), ())))), bool)
        run = tuple(thing for at in range(300) for thing in (("did", at, 0, "read", "b"), ("commit", at, 0)))
        self.assertIs(type(finding_holds(("fails", (LETTER.states,), run))), bool)

    def test_the_cube_at_other_kinds(self):
        lines = (stack(2, "a", "b"),)
        self.check(held("cube", lines, (BEGIN, BEGIN, ("did", 0, 0, "puta", "ok"), ("did", 1, 0, "putb", "ok"))))
        self.check(held("cube", (beside(switch(), permits(1)),), (BEGIN, ("did", 0, 0, "rback", "ok"))), True)

    def test_too_many_nodes(self):
        # Nothing is promised then, but no error leaves the call.
        with mock.patch.object(findings, "held_back", side_effect=TooMany(5000)):
            self.check(TRUE_ONES["held"], False)


if __name__ == "__main__":
    unittest.main()
