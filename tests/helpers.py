"""What several tests need."""

import unittest

from ownersagree.handlers import Handler
from ownersagree.schemas import Schema
from ownersagree.systems import System

# Teams have projects, projects have tasks, tasks have steps; notes have remarks. No column follows.
TEAMS = "\n".join([
    "root team owner lead",
    "table project team owner",
    "table task project owner state",
    "table step task owner",
    "root note text",
    "table remark note text",
])
PARENTS = {"team": None, "project": "team", "task": "project", "step": "task", "note": None, "remark": "note"}
COLUMNS = {"team": ["owner", "lead"], "project": ["owner"], "task": ["owner", "state"], "step": ["owner"],
           "note": ["text"], "remark": ["text"]}


def chain(table):
    """Returns the tables of the chain of one of the TEAMS tables."""
    return [table] + (chain(PARENTS[table]) if PARENTS[table] else [])


def teams():
    return Schema.read(TEAMS)


def handler(*lines, schema=None):
    """Returns the handler of some lines, over TEAMS if no schema is passed."""
    return Handler.read(schema or teams(), "\n".join(lines))


def system(*handlers, schema=None):
    """Returns the system of some handlers, each a tuple of its lines."""
    schema = schema or teams()
    return System(schema, [handler(*lines, schema=schema) for lines in handlers])


def state_of(base):
    """Returns all that can be read of each row: its parent row, its values and its depth."""
    schema = base.system.schema
    state = {}
    for table in schema.tables():
        for number in base.numbers(table):
            row = base[table, number]
            cells = {column: row[column] for column in schema.columns(table)}
            state[(table, number)] = (row.parent, cells, base.depth_of(table, number))
    return state


class AgreeTestCase(unittest.TestCase):
    def check_error(self, error, function, *arguments, **named):
        """Checks that a call raises an error of the same class with the same attributes, and returns it."""
        with self.assertRaises(type(error)) as caught:
            function(*arguments, **named)
        self.assertIs(type(caught.exception), type(error))
        self.assertEqual(vars(caught.exception), vars(error))
        return caught.exception
