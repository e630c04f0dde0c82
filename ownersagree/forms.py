"""The forms of the lines of handlers and questions (points 5, 16, 17 and 55)."""

from ownersagree.errors import BadLine
from ownersagree.texts import are_names, is_constant, is_name


def _is_term(word):
    """Tells whether a word has the form of a term: a constant, or one or more names joined by dots."""
    return is_constant(word) or are_names(word.split("."))


def _fits(word, part):
    """Tells whether a word of a line fits a part of a form."""
    if part == "NAME":
        return is_name(word)
    if part == "NAME.NAME":
        return word.count(".") == 1 and are_names(word.split("."))
    if part == "TERM":
        return _is_term(word)
    return word == part


def _has_form(words, form):
    parts = form.split(" ")
    if parts[-1] == "..":
        # The part before the dots stands once already.
        parts = parts[:-1] + [parts[-2]] * (len(words) - len(parts) + 1)
    return len(words) == len(parts) and all([_fits(word, part) for word, part in zip(words, parts)])


def place_of(line, words, forms):
    """Returns the place of a line in its text, as the pairs of a place and a form tell it."""
    for place, form in forms:
        if _has_form(words, form):
            return place
    raise BadLine(line)
