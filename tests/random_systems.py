"""Random handlers, questions and calls over a few schemas."""

import random

from ownersagree.errors import AgreeError
from ownersagree.handlers import Handler
from ownersagree.questions import Question
from ownersagree.schemas import Schema
from ownersagree.systems import System
from tests.helpers import TEAMS

SCHEMAS = [
    # A chain of four tables, along which columns follow.
    "root a x y\ntable b a x y\ntable c b x\ntable d c x y\nfollow b x y\nfollow c x x\nfollow d y x",
    # Two tables under one, and two roots.
    "root a x\ntable b a x\ntable c a x y\ntable d b x\nroot e x\ntable f e x\nfollow d x x\nfollow c y x",
    # Tables called like columns, and children that stand away from their parents.
    "root x x y\nroot me me\ntable y x me x\ntable z me x\ntable w y x\nfollow w x me",
    TEAMS,
]
VALUES = ["a", "b", "me"]


def random_term(chance, schema, rows, values):
    pool = ["me", "'a'", "'b'"] + values
    for name, table in rows:
        pool += [f"{name}.{position}" for position in schema.positions(table)]
    return chance.choice(pool)


def random_deed(chance, schema, rows, values, made):
    """Returns a line that changes the base; it need not fit the tables."""
    term = lambda: random_term(chance, schema, rows, values)
    row = lambda: chance.choice([name for name, _ in rows] or ["none"])
    any_row = lambda: chance.choice([name for name, _ in rows] + made or ["none"])
    table = chance.choice(schema.tables())
    column = chance.choice(schema.columns(table))
    terms = " ".join(term() for _ in schema.columns(table))
    under = "" if schema.parent_of(table) is None else f" under {any_row()}"
    return chance.choice([
        f"new n{len(made)} in {table}{under} with {terms}",
        f"new n{len(made)} in {table}{under} with {terms}",
        f"move {row()} under {any_row()}",
        f"move {row()} under {any_row()}",
        f"set {row()}.{column} = {term()}",
        f"each {table} below {any_row()} sets {column} = {term()}",
        f"each {table} below {any_row()} sets {column} = {term()}",
        f"take {row()}" if chance.random() < 0.4 else f"set {row()}.{column} = {term()}",
    ])


def random_parameters(chance, schema):
    rows = [(f"r{index}", chance.choice(schema.tables())) for index in range(chance.randrange(4))]
    values = [f"v{index}" for index in range(chance.randrange(3))]
    return rows, values, [f"row {name} in {table}" for name, table in rows] + [f"value {name}" for name in values]


def fits(read, schema, text):
    try:
        read(schema, text)
    except AgreeError:
        return False
    return True


def random_handler(chance, schema, name):
    """Returns the text of a handler."""
    rows, values, lines = random_parameters(chance, schema)
    text = "\n".join([f"handler {name}"] + lines)
    if chance.random() < 0.2:
        text += f"\nneed {random_term(chance, schema, rows, values)} = {random_term(chance, schema, rows, values)}"
    made = []
    for _ in range(30):
        deed = random_deed(chance, schema, rows, values, made)
        if text.count("\n") < 12 and fits(Handler.read, schema, f"{text}\n{deed}"):
            text = f"{text}\n{deed}"
            if deed.startswith("new "):
                made.append(deed.split(" ")[1])
            if chance.random() < 0.15:
                break
    return text


def random_question(chance, schema):
    """Returns the text of a question."""
    rows, values, lines = random_parameters(chance, schema)
    table = chance.choice(schema.tables())
    text = "\n".join(["question q"] + lines + [f"find n in {table}"])
    below = f"{text} below {chance.choice([name for name, _ in rows] or ['none'])}"
    if fits(Question.read, schema, below):
        text = below
    terms = rows + [("n", table)]
    for _ in range(chance.randrange(3)):
        left = chance.choice([f"n.{position}" for position in schema.positions(table)])
        text += f"\nwhere {left} = {random_term(chance, schema, terms, values)}"
    return text


def random_arguments(chance, base, asked):
    """Returns a caller, rows and values for a handler or a question, now and then wrong ones."""
    rows = []
    for _, table in asked.row_parameters():
        numbers = base.numbers(table)
        rows.append(chance.choice(numbers) if numbers and chance.random() < 0.97 else chance.choice([0, -1, 99]))
    values = [chance.choice(VALUES) for _ in asked.value_parameters()]
    me = chance.choice(VALUES)
    if chance.random() < 0.03:
        rows = rows + [1]
    if chance.random() < 0.03:
        values = values[1:]
    if chance.random() < 0.03:
        me = chance.choice(["", None, "A", 3])
    return me, tuple(rows), tuple(values)


def random_needs(chance, schema, text, many):
    """Returns the text of a handler or a question with some more guards or conditions in their place."""
    lines = text.split("\n")
    word = "where" if lines[0].startswith("question ") else "need"
    rows, values = [], []
    for line in lines:
        words = line.split(" ")
        if words[0] in ("row", "find"):
            rows.append((words[1], words[3]))
        if words[0] == "value":
            values.append(words[1])
    behind = max(index for index, line in enumerate(lines)
                 if line.split(" ")[0] in ("handler", "question", "row", "value", "find", "need", "where"))
    pool = [f"{name}.{position}" for name, table in rows for position in schema.positions(table)] or ["me"]
    more = [f"{word} {chance.choice(pool)} = {random_term(chance, schema, rows, values)}" for _ in range(many)]
    return "\n".join(lines[:behind + 1] + more + lines[behind + 1:])


def maker(chance, schema, table, name):
    """Returns the text of a handler that puts a row into a table."""
    parent = schema.parent_of(table)
    rows = [] if parent is None else [("r0", parent)]
    terms = " ".join(random_term(chance, schema, rows, ["v0", "v0"]) for _ in schema.columns(table))
    under = "" if parent is None else " under r0"
    lines = [f"handler {name}"] + [f"row r0 in {parent}" for _ in rows] + ["value v0"]
    return "\n".join(lines + [f"new n0 in {table}{under} with {terms}"])


def random_system_texts(chance, schema, extra):
    """Returns the texts of handlers of which one puts rows into each table, and of some more."""
    texts = [maker(chance, schema, table, f"m{index}") for index, table in enumerate(schema.tables())]
    for index in range(extra):
        text = random_handler(chance, schema, f"h{index}")
        texts.append(random_needs(chance, schema, text, chance.choice([0, 0, 1, 2])))
    return texts


def with_owners(chance, text):
    """Returns the text of a schema with an owner line for most of its tables."""
    schema = Schema.read(text)
    return "\n".join([text] + [f"owner {table} {chance.choice(schema.positions(table))}" for table in schema.tables()
                               if chance.random() < 0.8])


def random_owned_system(seed, extra=4):
    """Returns a source of chance and a system over a schema with owners."""
    chance = random.Random(seed)
    schema = Schema.read(with_owners(chance, chance.choice(SCHEMAS)))
    return chance, System(schema, [Handler.read(schema, text) for text in random_system_texts(chance, schema, extra)])
