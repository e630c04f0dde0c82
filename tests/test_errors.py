"""Point 4, and the errors of the interface."""

import copy
import pickle
import unittest

from ownersagree import errors
from ownersagree.errors import AgreeError, BadValue, NoRow, Refused

# Each class with its arguments by name, in order.
ARGUMENTS = {
    "BadLine": {"line": 3},
    "DuplicateName": {"line": 2, "name": "task"},
    "UnknownName": {"line": 0, "name": "owner"},
    "WrongTable": {"line": 5, "name": "p"},
    "WrongCount": {"line": 6},
    "TooMany": {"line": 7},
    "BadPattern": {"place": "'open'"},
    "ConstantsMeet": {"first": "'a'", "second": "'b'"},
    "OtherPlaces": {},
    "OtherSchema": {},
    "BadValue": {"value": ["no", "value"]},
    "NoRow": {"table": "task", "number": -4},
    "Refused": {"handler": "give", "guard": 1, "agreement": ("task", "a", "b"), "number": 8},
    "Broken": {"agreement": ("task", "a", "'x'"), "number": 9},
    "BadCase": {},
    "TooManyPatterns": {"table": "task"},
    "BadDerivation": {"line": 10},
    "NotReachable": {},
    "TooLong": {"size": 101},
    "NotComparable": {},
    "BadOffer": {"number": 11},
}


def created(name):
    return getattr(errors, name)(*ARGUMENTS[name].values())


class ErrorTest(unittest.TestCase):
    def test_the_module_has_these_classes_and_no_others(self):
        found = [name for name, thing in vars(errors).items() if isinstance(thing, type)]
        self.assertEqual(sorted(found), sorted(["AgreeError", *ARGUMENTS]))
        self.assertEqual(len(ARGUMENTS), 21)

    def test_the_base_class_is_a_value_error(self):
        self.assertEqual(AgreeError.__bases__, (ValueError,))

    def test_each_class_is_a_direct_subclass_of_the_base_class(self):
        for name in ARGUMENTS:
            with self.subTest(name=name):
                self.assertEqual(getattr(errors, name).__bases__, (AgreeError,))

    def test_each_error_is_caught_as_agree_error_and_value_error(self):
        for name in ARGUMENTS:
            for wanted in (getattr(errors, name), AgreeError, ValueError):
                with self.subTest(name=name, wanted=wanted), self.assertRaises(wanted):
                    raise created(name)

    def test_no_class_is_a_subclass_of_another_one(self):
        for first in ARGUMENTS:
            for second in ARGUMENTS:
                if first != second:
                    self.assertFalse(issubclass(getattr(errors, first), getattr(errors, second)), (first, second))

    def test_arguments_are_attributes(self):
        for name, arguments in ARGUMENTS.items():
            with self.subTest(name=name):
                self.assertEqual(vars(created(name)), arguments)

    def test_arguments_may_be_passed_by_keyword(self):
        for name, arguments in ARGUMENTS.items():
            with self.subTest(name=name):
                self.assertEqual(vars(getattr(errors, name)(**arguments)), arguments)

    def test_arguments_may_not_be_missing(self):
        for name, arguments in ARGUMENTS.items():
            needed = list(arguments.values())[:2]
            if needed:
                with self.subTest(name=name), self.assertRaises(TypeError):
                    getattr(errors, name)(*needed[:-1])

    def test_a_refusal_by_a_guard_has_no_agreement(self):
        error = Refused("give", 0)
        self.assertEqual((error.handler, error.guard, error.agreement, error.number), ("give", 0, None, None))

    def test_a_refusal_by_an_agreement_has_no_guard(self):
        error = Refused("give", None, ("task", "a", "b"), 2)
        self.assertEqual((error.handler, error.guard), ("give", None))
        self.assertEqual((error.agreement, error.number), (("task", "a", "b"), 2))

    def test_errors_of_two_objects_do_not_share_attributes(self):
        first, second = NoRow("task", 1), NoRow("project", 2)
        self.assertEqual((first.table, first.number), ("task", 1))
        self.assertEqual((second.table, second.number), ("project", 2))

    def test_each_error_has_a_message(self):
        for name in ARGUMENTS:
            with self.subTest(name=name):
                self.assertNotEqual(str(created(name)), "")
        self.assertNotEqual(str(Refused("give", None, ("task", "a", "b"), 2)), str(Refused("give", 1)))

    def test_a_message_tells_the_line_if_a_text_was_read(self):
        self.assertIn("line 2: task", str(created("DuplicateName")))
        self.assertTrue(str(created("UnknownName")).startswith("owner"))

    def test_arguments_that_can_not_be_written_are_no_obstacle(self):
        class Silent:
            def __repr__(self):
                raise RuntimeError("silent")

        silent = Silent()
        self.assertIs(BadValue(silent).value, silent)
        self.assertEqual(NoRow("task", 10 ** 5000).number, 10 ** 5000)

    def test_errors_can_be_copied_and_pickled(self):
        for name, arguments in ARGUMENTS.items():
            with self.subTest(name=name):
                for twin in (copy.copy(created(name)), pickle.loads(pickle.dumps(created(name)))):
                    self.assertEqual(type(twin).__name__, name)
                    self.assertEqual(vars(twin), arguments)


if __name__ == "__main__":
    unittest.main()
