"""The words that all texts of the package are made of (point 3)."""

LETTERS = "abcdefghijklmnopqrstuvwxyz"
LETTERS_AND_DIGITS = "abcdefghijklmnopqrstuvwxyz0123456789"
LONGEST_NAME = 12
LONGEST_VALUE = 20


def is_value(word):
    """Tells whether something of any kind is a value."""
    if not isinstance(word, str):
        return False
    return 1 <= len(word) <= LONGEST_VALUE and all([sign in LETTERS_AND_DIGITS for sign in word])


def is_name(word):
    """Tells whether a string is a name."""
    return is_value(word) and len(word) <= LONGEST_NAME and word[0] in LETTERS


def are_names(words):
    """Tells whether each of the strings is a name."""
    return all([is_name(word) for word in words])


def is_constant(word):
    """Tells whether a string is a constant: a value between single quotes."""
    return word.startswith("'") and word.endswith("'") and is_value(word[1:-1])
