"""Promise [2], the errors: mustwait.errors."""

import unittest

from mustwait import errors
from mustwait.errors import (
    Full, InvalidCommand, InvalidText, IsWaiting, Never, NoKind, NoObject, NoOperation, NotOpen, StoreError, TooMany,
)
from values import ANY_VALUES

WITH_PARAMETER = [
    (NoObject, "place"),
    (NoOperation, "operation"),
    (NotOpen, "number"),
    (IsWaiting, "number"),
    (Never, "number"),
    (Full, "holders"),
    (TooMany, "most"),
]
WITHOUT_PARAMETER = [NoKind, InvalidText, InvalidCommand]
ALL = [error for error, _ in WITH_PARAMETER] + WITHOUT_PARAMETER


class Bases(unittest.TestCase):
    def test_the_base_class(self):
        self.assertEqual(StoreError.__bases__, (Exception,))

    def test_ten_direct_subclasses_with_no_other_base(self):
        self.assertEqual(len(ALL), 10)
        for error in ALL:
            self.assertEqual(error.__bases__, (StoreError,), error)

    def test_no_other_classes_in_the_module(self):
        found = [thing for thing in vars(errors).values() if isinstance(thing, type)]
        self.assertCountEqual(found, ALL + [StoreError])


class Creation(unittest.TestCase):
    def test_by_position_with_any_value(self):
        for error, name in WITH_PARAMETER:
            for value in ANY_VALUES:
                self.assertIs(getattr(error(value), name), value)

    def test_by_name_with_any_value(self):
        for error, name in WITH_PARAMETER:
            for value in ANY_VALUES:
                self.assertIs(getattr(error(**{name: value}), name), value)

    def test_the_attributes_are_those_of_the_object(self):
        one, other = NoObject(1), NoObject(2)
        self.assertEqual((one.place, other.place), (1, 2))

    def test_a_parameter_has_no_default(self):
        for error, _ in WITH_PARAMETER:
            with self.assertRaises(TypeError):
                error()

    def test_without_parameters(self):
        for error in WITHOUT_PARAMETER:
            self.assertEqual(vars(error()), {})


class Catching(unittest.TestCase):
    def made(self):
        return [error((1,)) for error, _ in WITH_PARAMETER] + [error() for error in WITHOUT_PARAMETER]

    def test_caught_by_its_own_class_and_no_sister(self):
        for error in self.made():
            for kind in ALL:
                self.assertEqual(isinstance(error, kind), type(error) is kind)
            with self.assertRaises(type(error)):
                raise error

    def test_caught_by_the_base_class(self):
        for error in self.made():
            with self.assertRaises(StoreError) as caught:
                raise error
            self.assertIs(caught.exception, error)

    def test_caught_with_its_attribute(self):
        try:
            raise Full((1, 2))
        except StoreError as error:
            self.assertEqual(error.holders, (1, 2))

    def test_no_error_of_python_catches_them(self):
        for error in self.made():
            self.assertNotIsInstance(error, (ValueError, LookupError, TypeError, RuntimeError, ArithmeticError))
