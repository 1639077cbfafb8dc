"""The head of the section "The interface": names, places, parameters, kinds of values."""

import importlib
import inspect
import unittest

from mustwait.builders import account, switch
from mustwait.kinds import Kind

FUNCTIONS = {
    "mustwait.kinds": {"is_word": "thing"},
    "mustwait.builders": {
        "cell": "*words", "counter": "most", "account": "most *amounts", "queue": "places *words",
        "stack": "places *words", "pool": "places *words", "switch": "", "tickets": "most", "permits": "many",
        "beside": "one other",
    },
}
CLASSES = {
    "mustwait.errors": (
        "StoreError", "NoKind", "NoObject", "NoOperation", "NotOpen", "IsWaiting", "Never", "Full", "TooMany",
        "InvalidText", "InvalidCommand",
    ),
    "mustwait.kinds": ("Kind",),
}
ERRORS = {
    "NoKind": "", "NoObject": "place", "NoOperation": "operation", "NotOpen": "number", "IsWaiting": "number",
    "Never": "number", "Full": "holders", "TooMany": "most", "InvalidText": "", "InvalidCommand": "",
}
METHODS = {
    "__init__": "self *states", "__eq__": "self other", "__len__": "self", "answers": "self state operation",
    "led": "self state *events", "reached": "self *states", "allows": "self one other", "alike": "self one other",
    "difference": "self other",
}
CLASS_METHODS = {"of": "cls states", "read": "cls text"}
PROPERTIES = ("events", "operations", "least", "text")


def parameters(function):
    stars = {inspect.Parameter.VAR_POSITIONAL: "*", inspect.Parameter.POSITIONAL_OR_KEYWORD: ""}
    found = inspect.signature(function).parameters.values()
    assert all(parameter.default is inspect.Parameter.empty for parameter in found)
    return " ".join(stars[parameter.kind] + parameter.name for parameter in found)


class Names(unittest.TestCase):
    def test_functions_stand_in_their_files(self):
        for place, functions in FUNCTIONS.items():
            module = importlib.import_module(place)
            for name, wanted in functions.items():
                function = vars(module)[name]
                self.assertEqual(function.__module__, place)
                self.assertEqual(parameters(function), wanted)

    def test_classes_stand_in_their_files(self):
        for place, names in CLASSES.items():
            module = importlib.import_module(place)
            for name in names:
                self.assertIsInstance(vars(module)[name], type)
                self.assertEqual(vars(module)[name].__module__, place)

    def test_parameters_of_errors(self):
        module = importlib.import_module("mustwait.errors")
        for name, wanted in ERRORS.items():
            error = vars(module)[name]
            if wanted:
                self.assertEqual(parameters(vars(error)["__init__"]), "self " + wanted)
            else:
                error()

    def test_methods_stand_in_the_class(self):
        for name, wanted in METHODS.items():
            self.assertEqual(parameters(vars(Kind)[name]), wanted)
        for name, wanted in CLASS_METHODS.items():
            self.assertIsInstance(vars(Kind)[name], classmethod)
            self.assertEqual(parameters(vars(Kind)[name].__func__), wanted)
        for name in PROPERTIES:
            self.assertIsInstance(vars(Kind)[name], property)

    def test_states_is_set_on_each_object(self):
        self.assertIn("states", vars(Kind(())))


class Values(unittest.TestCase):
    """Promise [2]: results are strings, integers, bools, None, tuples and objects of the classes."""

    def check(self, value):
        if isinstance(value, tuple):
            for part in value:
                self.check(part)
        else:
            self.assertIn(type(value), (str, int, bool, type(None), Kind))

    def test_results(self):
        kind = account(2, 1)
        results = (
            kind.states, kind.events, kind.operations, kind.least, kind.text, kind.answers(0, "put1"),
            kind.answers(0, "put2"), kind.led(0), kind.led(0, ("put1", "ok")), kind.led(0, ("a", "b")), kind.reached(),
            kind.reached(0, 1), kind.allows(0, 1), kind.alike(0, 0), kind.difference(kind), kind.difference(switch()),
            Kind.read(kind.text), Kind.of(kind.states), len(kind), kind == kind,
        )
        self.check(results)
        self.assertIsInstance(kind.allows(0, 1), bool)
        self.assertIsInstance(kind.alike(0, 1), bool)
        self.assertIsInstance(kind == kind, bool)

    def test_by_name(self):
        kind = account(2, 1)
        self.assertEqual(kind.answers(state=0, operation="put1"), ("ok",))
        self.assertEqual(kind.led(state=2), 2)
        self.assertEqual(kind.difference(other=kind), None)
        self.assertEqual(account(most=2), account(2))
