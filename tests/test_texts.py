"""Point 3: names, values and constants."""

import unittest

from ownersagree.texts import is_constant, is_name, is_value

STRANGE = ["", " ", "a b", " a", "a ", "A", "aB", "a_b", "a-b", "a.b", "a\tb", "a\n", "\u00e9", "a\u00b2", "\u0663",
           "a'"]


LETTERS = "abcdefghijklmnopqrstuvwxyz"
DIGITS = "0123456789"


class TextsTest(unittest.TestCase):
    def test_each_character(self):
        for sign in map(chr, range(0x3000)):
            self.assertEqual(is_name(sign), sign in LETTERS, repr(sign))
            self.assertEqual(is_name(f"a{sign}"), sign in LETTERS + DIGITS, repr(sign))
            self.assertEqual(is_value(sign), sign in LETTERS + DIGITS, repr(sign))
            self.assertEqual(is_constant(f"'{sign}'"), sign in LETTERS + DIGITS, repr(sign))

    def test_names(self):
        for word in ["a", "z", "a0", "z9", "me", "owner2b", "abcdefghijkl", "m23456789012"]:
            self.assertTrue(is_name(word), word)
        for word in STRANGE + ["0", "9a", "abcdefghijklm", "'a'"]:
            self.assertFalse(is_name(word), word)

    def test_values(self):
        for word in ["a", "0", "9z", "007", "abcdefghij0123456789"]:
            self.assertTrue(is_value(word), word)
        for word in STRANGE + ["abcdefghij01234567890", "'a'"]:
            self.assertFalse(is_value(word), word)

    def test_constants(self):
        for word in ["'a'", "'0'", "'open'", "'abcdefghij0123456789'"]:
            self.assertTrue(is_constant(word), word)
        for word in ["", "'", "''", "'''", "a", "'a", "a'", "'ab", "ab'", "abc", "\"a\"", "''a''", "'a'b'", " 'a'",
                     "'a' "]:
            self.assertFalse(is_constant(word), word)
        for word in STRANGE + ["abcdefghij01234567890"]:
            self.assertFalse(is_constant(f"'{word}'"), word)


if __name__ == "__main__":
    unittest.main()
