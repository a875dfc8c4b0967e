"""The error classes, their fields and their places in the hierarchy."""

import inspect
import unittest

from fromwithin import errors

FIELDS = {
    "UnknownPerson": ("name",),
    "InvalidRoom": ("room",),
    "NotAdjacent": ("room",),
    "EmptyRoom": ("room",),
    "InvalidMoves": ("position",),
    "OtherRegion": ("room",),
    "TightRegion": ("room",),
    "Blocked": ("block",),
    "InvalidName": ("name",),
    "DuplicateName": ("name",),
    "LimitReached": ("limit",),
    "AlreadyAdjacent": ("room",),
    "WouldFormCycle": ("room",),
    "NothingToUndo": (),
    "HistoryFull": (),
    "SessionBusy": (),
    "InvalidActions": (),
    "BatchFailed": ("position",),
    "InvalidMoment": ("position",),
    "InvalidHouse": (),
    "InvalidPlacement": (),
    "InvalidText": ("position",),
}

ANY_VALUES = (
    None, True, False, 0, -1, 7, 10 ** 59, "", "zoe", "a b\n~", (), (1, (2, None)), ("stuck", 0, ()), [1, [2]], {"a": 1},
)


def error_classes():
    return {name: getattr(errors, name) for name in FIELDS}


class ErrorsTest(unittest.TestCase):
    def test_the_module_defines_exactly_these_classes(self):
        found = {name: value for name, value in vars(errors).items() if inspect.isclass(value)}
        self.assertEqual(len(FIELDS), 22)
        self.assertEqual(set(found), set(FIELDS) | {"HouseError"})
        for value in found.values():
            self.assertEqual(value.__module__, "fromwithin.errors")

    def test_each_class_is_a_direct_subclass(self):
        self.assertEqual(errors.HouseError.__bases__, (ValueError,))
        for name, error_class in error_classes().items():
            with self.subTest(name):
                self.assertEqual(error_class.__bases__, (errors.HouseError,))

    def test_parameters_are_the_fields_in_order(self):
        for name, error_class in error_classes().items():
            with self.subTest(name):
                self.assertEqual(tuple(inspect.signature(error_class).parameters), FIELDS[name])

    def test_fields_hold_the_arguments_as_passed(self):
        for name, error_class in error_classes().items():
            for value in ANY_VALUES if FIELDS[name] else ():
                with self.subTest(name, value=value):
                    before = repr(value)
                    error = error_class(value)
                    self.assertIs(getattr(error, FIELDS[name][0]), value)
                    self.assertEqual(set(vars(error)), set(FIELDS[name]))
                    self.assertEqual(repr(value), before)

    def test_errors_without_fields_store_nothing(self):
        for name, error_class in error_classes().items():
            if not FIELDS[name]:
                with self.subTest(name):
                    self.assertEqual(vars(error_class()), {})

    def test_wrong_numbers_of_arguments(self):
        for name, error_class in error_classes().items():
            with self.subTest(name):
                with self.assertRaises(TypeError):
                    error_class(*FIELDS[name], "one too many")
                if FIELDS[name]:
                    with self.assertRaises(TypeError):
                        error_class()

    def test_an_error_is_an_instance_of_its_own_class_alone(self):
        for name, error_class in error_classes().items():
            error = error_class(*FIELDS[name])
            with self.subTest(name):
                self.assertIsInstance(error, errors.HouseError)
                self.assertIsInstance(error, ValueError)
                matching = [other for other, value in error_classes().items() if isinstance(error, value)]
                self.assertEqual(matching, [name])

    def test_errors_are_raised_and_caught_by_their_classes(self):
        for name, error_class in error_classes().items():
            for caught in (error_class, errors.HouseError, ValueError):
                with self.subTest(name, caught=caught), self.assertRaises(caught) as context:
                    raise error_class(*FIELDS[name])
                self.assertIs(type(context.exception), error_class)


if __name__ == "__main__":
    unittest.main()
