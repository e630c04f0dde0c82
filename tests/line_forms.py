"""A second reading of the forms of lines, by regular expressions, and ways to spoil a line."""

import random
import re

NAME = "[a-z][a-z0-9]{0,11}"
CONSTANT = "'[a-z0-9]{1,20}'"
TERM = f"({CONSTANT}|{NAME}(\\.{NAME})*)"
PARAMETERS = [f"row {NAME} in {NAME}", f"value {NAME}"]
HANDLER = [f"handler {NAME}"] + PARAMETERS + [
    f"need {TERM} = {TERM}", f"new {NAME} in {NAME}( under {NAME})? with {TERM}( {TERM})*",
    f"move {NAME} under {NAME}", f"set {NAME}\\.{NAME} = {TERM}",
    f"each {NAME} below {NAME} sets {NAME} = {TERM}", f"take {NAME}",
]
QUESTION = [f"question {NAME}"] + PARAMETERS + [
    f"find {NAME} in {NAME}( below {NAME})?", f"where {TERM} = {TERM}",
]
BAD_NAMES = ["", "9a", "A", "aB", "a_b", "a-b", "a.b", "'a'", "abcdefghijklm", "\u00e9", "a\t", "=", ".."]
BAD_TERMS = ["", "9a", "A", "a_b", "a.", ".a", "a..b", "a.9b", "a.B", "a.'b'", "'a'.b", "'A'", "'a b'", "'a", "a'",
             "''", "'abcdefghij01234567890'", "a.abcdefghijklm", "abcdefghijklm", "\"a\"", "=", "a,b"]
BAD_COLUMNS = ["", "a", "a.b.c", "a.", ".b", "a..b", "A.b", "a.B", "a.9", "'a'", "'a'.b", "a:b", "abcdefghijklm.b"]


def has_form(line, forms):
    """Tells whether a line has one of the forms."""
    return any(re.fullmatch(form, line, re.ASCII) for form in forms)


def spoiled(line, kinds):
    """Yields lines that differ from a line in one way each and have no form.

    kinds tells for each word what it is: n for a name, t for a term, c for a row and a column, and w for a word of
    the form itself.
    """
    words = line.split(" ")
    wrong = {"n": BAD_NAMES, "t": BAD_TERMS, "c": BAD_COLUMNS, "w": ["", "word", "=", "me", "x.y", "'a'"]}
    for at, (word, kind) in enumerate(zip(words, kinds)):
        for other in wrong[kind] + ([word.upper(), word + "s", word[:-1]] if kind == "w" else []):
            if other != word:
                yield " ".join(words[:at] + [other] + words[at + 1:])
        yield " ".join(words[:at] + words[at + 1:])
        yield " ".join(words[:at] + [word, ""] + words[at + 1:])
        yield " ".join(words[:at] + [f"{word}\t{words[at]}"] + words[at + 1:])
        yield " ".join(words[:at] + ["="] + words[at:])
        yield " ".join(words[:at] + [f"{word},"] + words[at + 1:])
    yield f" {line}"
    yield f"{line} "
    yield f"{line} ="
    yield f"{line} 9"
    yield f"{line}\r"
    yield ""


def random_lines(seed, count):
    """Yields lines of random words, with forms and without."""
    chance = random.Random(seed)
    shapes = [
        "handler N", "question N", "row N in N", "value N", "need T = T", "where T = T", "new N in N with T",
        "new N in N with T T", "new N in N under N with T T T", "move N under N", "set C = T",
        "each N below N sets N = T", "take N", "find N in N", "find N in N below N",
    ]
    names = ["a", "x", "me", "with", "under", "in", "below", "b2", "sets"]
    terms = names + ["'a'", "a.b", "x.y.z", "me.a", "'0'"]
    columns = ["a.b", "x.me", "with.in"]
    for _ in range(count):
        words = []
        for part in chance.choice(shapes).split(" "):
            pool = {"N": names, "T": terms, "C": columns}.get(part, [part])
            words.append(chance.choice(pool))
        for _ in range(chance.choice([0, 0, 1, 1, 2])):
            at = chance.randrange(len(words))
            words[at:at + chance.randrange(2)] = chance.choice([[], [chance.choice(terms + columns + BAD_TERMS)]])
            words = words or [""]
        yield " ".join(words)
