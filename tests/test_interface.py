"""The interface: what is defined in which module, and in the body of which class."""

import unittest

from ownersagree import errors, patterns, schemas

ERRORS = [
    "AgreeError", "BadLine", "DuplicateName", "UnknownName", "WrongTable", "WrongCount", "TooMany", "BadPattern",
    "ConstantsMeet", "OtherPlaces", "OtherSchema", "BadValue", "NoRow", "Refused", "Broken", "BadCase",
    "TooManyPatterns", "BadDerivation", "NotReachable", "TooLong", "NotComparable", "BadOffer",
]
SCHEMA_METHODS = [
    "read", "tables", "columns", "parent_of", "chain_of", "positions", "owner_of", "follows", "__eq__",
]
PATTERN_METHODS = [
    "blocks", "__str__", "__len__", "__contains__", "__eq__", "__le__", "__and__", "__or__",
]


class InterfaceTest(unittest.TestCase):
    def test_each_class_is_defined_in_its_module(self):
        listed = [(errors, name) for name in ERRORS] + [(schemas, "Schema"), (patterns, "Pattern")]
        for module, name in listed:
            with self.subTest(name=name):
                self.assertEqual(getattr(module, name).__module__, module.__name__)

    def test_each_method_stands_in_its_class(self):
        for owner, names in [(schemas.Schema, SCHEMA_METHODS), (patterns.Pattern, PATTERN_METHODS)]:
            for name in names:
                with self.subTest(owner=owner.__name__, name=name):
                    self.assertIn(name, vars(owner))

    def test_read_is_a_static_method(self):
        self.assertIsInstance(vars(schemas.Schema)["read"], staticmethod)


if __name__ == "__main__":
    unittest.main()
