"""The names that a handler or a question defines, and the terms over them (points 17 and 18)."""

from ownersagree.errors import DuplicateName, UnknownName
from ownersagree.texts import is_constant


class Scope:
    """The names that the lines read so far have defined; each row has a table."""

    def __init__(self, schema):
        self.schema = schema
        self._rows = {}
        self._new_rows = {}
        self._values = []

    def row_parameters(self):
        """Returns the pairs of a row that terms may begin with and its table, in order."""
        return list(self._rows.items())

    def value_parameters(self):
        """Returns the names of the value parameters, in order."""
        return list(self._values)

    def define_row(self, name, table):
        """Defines a row that terms may begin with."""
        self._rows[name] = table

    def define_new_row(self, name, table):
        """Defines a row that may be named only where other rows are put or lie under it."""
        self._new_rows[name] = table

    def read_parameter(self, line, words):
        """Defines the parameter of a `row` or a `value` line."""
        self.check_new(line, words[1])
        if words[0] == "value":
            self._values.append(words[1])
        else:
            self.check_table(line, words[3])
            self.define_row(words[1], words[3])

    def read_equation(self, line, words):
        """Returns the pair of terms of a line `WORD TERM = TERM`."""
        self.check_term(line, words[1])
        self.check_term(line, words[3])
        return (words[1], words[3])

    def check_new(self, line, name):
        """Raises DuplicateName if a row or a value parameter can not have the name."""
        if name == "me" or name in self._values or name in self._rows or name in self._new_rows:
            raise DuplicateName(line, name)

    def check_table(self, line, table):
        """Raises UnknownName if the schema has no such table."""
        if table not in self.schema.tables():
            raise UnknownName(line, table)

    def table_of(self, line, name):
        """Returns the table of a row that terms may begin with."""
        if name not in self._rows:
            raise UnknownName(line, name)
        return self._rows[name]

    def table_of_any(self, line, name):
        """Returns the table of a row, which may be a new one."""
        if name in self._new_rows:
            return self._new_rows[name]
        return self.table_of(line, name)

    def check_term(self, line, term):
        """Raises UnknownName for the first name of the term, from the left, that is not known there."""
        if term == "me" or term in self._values or is_constant(term):
            return
        name, *position = term.split(".")
        table = self.table_of(line, name)
        if not position:
            raise UnknownName(line, name)
        self.schema.check_position(line, table, position)
