"""The head of the section "The interface": names, places, parameters, kinds of values."""

import importlib
import inspect
import unittest

from mustwait.alone import Alone, cube_answers, is_sound_alone, is_things, reaches
from mustwait.builders import account, queue, switch
from mustwait.certificates import decide, decision_holds, lot_certificate, lot_holds
from mustwait.console import Console
from mustwait.controls import CONTROLS, held_back, separating
from mustwait.counts import weavings
from mustwait.findings import finding_holds
from mustwait.histories import history_text, is_history, is_log, log_of, read_history
from mustwait.joint import joint, joint_holds
from mustwait.kinds import Kind
from mustwait.orders import fitting, is_fine, is_sound, orders, outcomes, unsound_at
from mustwait.runs import failing_run, is_run, run_order, sort_of
from mustwait.stores import Store
from mustwait.stories import folded, settled, story, story_holds
from mustwait.tables import aside, in_place, modes, safe_sets, stamp_table
from mustwait.wishes import can_give, good_sets, possible_answers, releases, status

FUNCTIONS = {
    "mustwait.kinds": {"is_word": "thing"},
    "mustwait.builders": {
        "cell": "*words", "counter": "most", "account": "most *amounts", "queue": "places *words",
        "stack": "places *words", "pool": "places *words", "switch": "", "tickets": "most", "permits": "many",
        "beside": "one other",
    },
    "mustwait.histories": {
        "is_history": "system thing", "is_log": "system thing", "log_of": "system history", "history_text": "history",
        "read_history": "system text",
    },
    "mustwait.orders": {
        "orders": "system log members", "fitting": "system log members", "outcomes": "log", "is_fine": "system log",
        "is_sound": "system history", "unsound_at": "system history",
    },
    "mustwait.wishes": {
        "possible_answers": "system wish", "can_give": "system log wish answer most=5000",
        "good_sets": "system log wish answer most=5000", "releases": "system log wish most=5000",
        "status": "system log wish most=5000",
    },
    "mustwait.stories": {
        "story": "system log wish most=5000", "story_holds": "system log wish thing", "settled": "system log most=5000",
        "folded": "system log most=5000",
    },
    "mustwait.certificates": {
        "decide": "system log wish most=5000", "decision_holds": "system log wish thing",
        "lot_certificate": "system log most=5000", "lot_holds": "system log thing",
    },
    "mustwait.joint": {"joint": "kind states most=5000", "joint_holds": "kind states thing"},
    "mustwait.alone": {
        "is_things": "kind thing", "is_sound_alone": "kind things", "reaches": "kind things outcome",
        "cube_answers": "kind things number operation most=5000",
    },
    "mustwait.tables": {
        "in_place": "kind", "aside": "kind", "safe_sets": "kind event most=5000", "stamp_table": "kind choices=()",
        "modes": "table events",
    },
    "mustwait.controls": {
        "held_back": "control system history most=5000", "separating": "kind one other length",
    },
    "mustwait.counts": {"weavings": "system programs control most=5000"},
    "mustwait.findings": {"finding_holds": "thing"},
    "mustwait.runs": {
        "is_run": "system thing", "run_order": "system run", "sort_of": "kind way p q", "failing_run": "kind way p q",
    },
}
CLASSES = {
    "mustwait.errors": (
        "StoreError", "NoKind", "NoObject", "NoOperation", "NotOpen", "IsWaiting", "Never", "Full", "TooMany",
        "InvalidText", "InvalidCommand",
    ),
    "mustwait.kinds": ("Kind",),
    "mustwait.stores": ("Store",),
    "mustwait.alone": ("Alone",),
    "mustwait.console": ("Console",),
}
ERRORS = {
    "NoKind": "", "NoObject": "place", "NoOperation": "operation", "NotOpen": "number", "IsWaiting": "number",
    "Never": "number", "Full": "holders", "TooMany": "most", "InvalidText": "", "InvalidCommand": "",
}
METHODS = {
    Kind: {
        "__init__": "self *states", "__eq__": "self other", "__len__": "self", "answers": "self state operation",
        "led": "self state *events", "reached": "self *states", "allows": "self one other", "alike": "self one other",
        "difference": "self other",
    },
    Store: {
        "__init__": "self *kinds most=5000", "__len__": "self", "__iter__": "self", "__contains__": "self number",
        "begin": "self", "ask": "self number place operation", "drop": "self number", "commit": "self number",
        "abort": "self number", "knot": "self", "remedies": "self", "wish": "self number", "why": "self number",
        "within": "self action",
    },
    Console: {"__init__": "self", "say": "self command"},
    Alone: {
        "__init__": "self kind most=5000", "ask": "self number operation", "commit": "self number", "abort": "self number",
    },
}
CLASS_METHODS = {
    Kind: {"of": "cls states", "read": "cls text"},
    Store: {"of": "cls system most=5000", "from_log": "cls system log most=5000"},
}
PROPERTIES = {
    Kind: ("events", "operations", "least", "text"), Store: ("log", "running", "waiting", "news"),
    Alone: ("things", "kept"),
}


def told(parameter):
    if parameter.kind is inspect.Parameter.VAR_POSITIONAL:
        return "*" + parameter.name
    if parameter.kind is inspect.Parameter.KEYWORD_ONLY:
        return f"{parameter.name}={parameter.default}"
    assert parameter.kind is inspect.Parameter.POSITIONAL_OR_KEYWORD
    if parameter.default is not inspect.Parameter.empty:
        return f"{parameter.name}={parameter.default}"
    return parameter.name


def parameters(function):
    return " ".join(told(parameter) for parameter in inspect.signature(function).parameters.values())


class Names(unittest.TestCase):
    def test_functions_stand_in_their_files(self):
        for place, functions in FUNCTIONS.items():
            module = importlib.import_module(place)
            for name, wanted in functions.items():
                function = vars(module)[name]
                self.assertEqual(function.__module__, place)
                self.assertEqual(parameters(function), wanted)

    def test_classes_stand_in_their_files(self):
        for place, names in CLASSES.items():
            module = importlib.import_module(place)
            for name in names:
                self.assertIsInstance(vars(module)[name], type)
                self.assertEqual(vars(module)[name].__module__, place)

    def test_parameters_of_errors(self):
        module = importlib.import_module("mustwait.errors")
        for name, wanted in ERRORS.items():
            error = vars(module)[name]
            if wanted:
                self.assertEqual(parameters(vars(error)["__init__"]), "self " + wanted)
            else:
                error()

    def test_methods_stand_in_the_class(self):
        for place, methods in METHODS.items():
            for name, wanted in methods.items():
                self.assertEqual(parameters(vars(place)[name]), wanted)
        for place, methods in CLASS_METHODS.items():
            for name, wanted in methods.items():
                self.assertIsInstance(vars(place)[name], classmethod)
                self.assertEqual(parameters(vars(place)[name].__func__), wanted)
        for place, names in PROPERTIES.items():
            for name in names:
                self.assertIsInstance(vars(place)[name], property)

    def test_generators(self):
        for function in (orders, outcomes):
            self.assertTrue(inspect.isgeneratorfunction(function))

    def test_attributes_are_set_on_each_object(self):
        self.assertIn("states", vars(Kind(())))
        self.assertLessEqual({"system", "most"}, set(vars(Store(switch()))))
        self.assertLessEqual({"kind", "most"}, set(vars(Alone(switch()))))


class Values(unittest.TestCase):
    """Promise [2]: results are strings, integers, bools, None, tuples and objects of the classes."""

    def check(self, value):
        if isinstance(value, tuple):
            for part in value:
                self.check(part)
        else:
            self.assertIn(type(value), (str, int, bool, type(None), Kind))

    def test_results(self):
        kind = account(2, 1)
        results = (
            kind.states, kind.events, kind.operations, kind.least, kind.text, kind.answers(0, "put1"),
            kind.answers(0, "put2"), kind.led(0), kind.led(0, ("put1", "ok")), kind.led(0, ("a", "b")), kind.reached(),
            kind.reached(0, 1), kind.allows(0, 1), kind.alike(0, 0), kind.difference(kind), kind.difference(switch()),
            Kind.read(kind.text), Kind.of(kind.states), len(kind), kind == kind,
        )
        self.check(results)
        self.assertIsInstance(kind.allows(0, 1), bool)
        self.assertIsInstance(kind.alike(0, 1), bool)
        self.assertIsInstance(kind == kind, bool)

    def test_results_of_histories_and_wishes(self):
        system, wish = (queue(2, "a", "b"),), (1, 0, "take")
        history = (("begin",), ("begin",), ("did", 0, 0, "puta", "ok"))
        log = log_of(system, history)
        self.check((
            log, history_text(history), read_history(system, history_text(history)), tuple(orders(system, log, (0, 1))),
            fitting(system, log, (0, 1)), tuple(outcomes(log)), unsound_at(system, history), possible_answers(system, wish),
            good_sets(system, log, wish, "a"), releases(system, log, wish), status(system, log, wish),
            story(system, log, wish), settled(system, log), folded(system, log), decide(system, log, wish),
            lot_certificate(system, log), joint(system[0], (4, 5)), joint(system[0], (4,)),
        ))
        found = story(system, log, wish)
        for told_so in (
            is_history(system, history), is_history(system, None), is_log(system, log), is_log(system, None),
            is_fine(system, log), is_sound(system, history), can_give(system, log, wish, "a"),
            story_holds(system, log, wish, found), story_holds(system, log, wish, None),
            decision_holds(system, log, wish, decide(system, log, wish)), decision_holds(system, log, wish, None),
            lot_holds(system, log, lot_certificate(system, log)), lot_holds(system, log, None),
            joint_holds(system[0], (4, 5), joint(system[0], (4, 5))), joint_holds(system[0], (4, 5), None),
        ):
            self.assertIs(type(told_so), bool)

    def test_results_of_stores(self):
        store = Store(queue(2, "a", "b"))
        results = [store.begin(), store.begin(), store.ask(0, 0, "puta"), store.ask(1, 0, "take"), store.why(1), store.wish(1)]
        results += [store.knot(), store.remedies(), store.log, store.running, store.waiting, store.news, store.system, len(store)]
        results += [store.commit(0), store.news, store.drop(1), store.abort(1), store.log, tuple(store), 1 in store]
        self.check(tuple(results))
        self.assertEqual([results[14], results[16], results[17]], [None, None, None])

    def test_results_of_objects_that_decide_alone(self):
        kind, things = queue(2, "a", "b"), (("did", 0, "puta", "ok"), ("commit", 0))
        one = Alone(kind)
        results = [one.ask(0, "puta"), one.ask(1, "putb"), one.commit(0), one.abort(1), one.things, one.kept, one.kind]
        results += [one.most, reaches(kind, things, ()), cube_answers(kind, things, 1, "take")]
        self.check(tuple(results))
        self.assertEqual(results[:4], ["ok", None, None, None])
        for told_so in (
            is_things(kind, things), is_things(kind, None), is_sound_alone(kind, things), is_sound_alone(kind, things[:1] * 3),
        ):
            self.assertIs(type(told_so), bool)

    def test_results_of_tables_and_runs(self):
        kind = account(1, 1)
        for way, table in (("in place", in_place(kind)), ("aside", aside(kind))):
            for p, q in table:
                run = failing_run(kind, way, p, q)
                self.check((table, run, sort_of(kind, way, p, q), modes(table, kind.events)))
                self.assertIsNone(run_order((kind, kind), run))
        self.check((safe_sets(kind, kind.events[0]), stamp_table(kind), run_order((kind,), ())))
        self.assertIs(type(is_run((kind,), ())), bool)
        self.assertIs(type(is_run((kind,), None)), bool)

    def test_results_of_controls_and_findings(self):
        kind = queue(2, "a", "b")
        puts = (("begin",), ("begin",), ("did", 0, 0, "puta", "ok"), ("did", 1, 0, "putb", "ok"))
        for one in CONTROLS:
            self.check((held_back(one, (kind,), puts), weavings((kind,), (((0, "puta"),),) * 2, one)))
            for other in CONTROLS:
                self.check(separating(kind, one, other, 4))
        self.check((CONTROLS, Console().say("object switch")))
        self.assertIs(type(finding_holds(("same", kind.states, kind.states))), bool)
        self.assertIs(type(finding_holds(None)), bool)

    def test_by_name(self):
        kind = account(2, 1)
        self.assertEqual(kind.answers(state=0, operation="put1"), ("ok",))
        self.assertEqual(kind.led(state=2), 2)
        self.assertEqual(kind.difference(other=kind), None)
        self.assertEqual(account(most=2), account(2))
