"""Schemas: the tables, their columns and their references (points 5 to 11)."""

from ownersagree.errors import BadLine, DuplicateName, TooMany, UnknownName
from ownersagree.texts import are_names, is_name


def _has_form(words):
    """Tells whether the words of a line have one of the four forms of point 7."""
    if words[0] == "root":
        return len(words) >= 3 and are_names(words[1:])
    if words[0] == "table":
        return len(words) >= 4 and are_names(words[1:])
    if words[0] == "owner":
        return len(words) == 3 and is_name(words[1]) and are_names(words[2].split("."))
    if words[0] == "follow":
        return len(words) == 4 and are_names(words[1:])
    return False


class Schema:
    """The tables of a text, in the order of its lines."""

    MOST_TABLES = 6
    MOST_COLUMNS = 4
    LONGEST_CHAIN = 4

    def __init__(self, text):
        self.text = text
        self._parents = {}
        self._columns = {}
        self._owners = {}
        self._follows = {}
        for number, line in enumerate(text.split("\n"), start=1):
            self._read_line(number, line.split(" "))

    @staticmethod
    def read(text):
        """Returns the schema of a text; raises the error of its first wrong line (point 6)."""
        return Schema(text)

    def tables(self):
        """Returns the names of the tables, in the order of the lines."""
        return list(self._columns)

    def columns(self, table):
        """Returns the columns of a table, in the order of their definition."""
        self._check_known(0, table)
        return list(self._columns[table])

    def parent_of(self, table):
        """Returns the name of the parent table, None for a root table."""
        self._check_known(0, table)
        return self._parents[table]

    def chain_of(self, table):
        """Returns the table, its parent table, and so on up to a root table."""
        self._check_known(0, table)
        chain = [table]
        while self._parents[chain[-1]] is not None:
            chain.append(self._parents[chain[-1]])
        return chain

    def positions(self, table):
        """Returns the positions of a table, in the order of point 9."""
        found = []
        way = ""
        for level in self.chain_of(table):
            if level != table:
                way = f"{way}{level}."
            found.extend([f"{way}{column}" for column in self._columns[level]])
        return found

    def owner_of(self, table):
        """Returns the position that tells to whom the rows belong, None if they belong to nobody."""
        self._check_known(0, table)
        return self._owners.get(table)

    def follows(self, table):
        """Returns the pairs of a column that follows and the column of the parent table."""
        self._check_known(0, table)
        sources = self._follows[table]
        return [(column, sources[column]) for column in self._columns[table] if column in sources]

    def check_position(self, line, table, names):
        """Raises UnknownName for the first of the names that leads from the table to no column."""
        here = table
        for name in names[:-1]:
            if name != self._parents[here]:
                raise UnknownName(line, name)
            here = name
        if names[-1] not in self._columns[here]:
            raise UnknownName(line, names[-1])

    def __eq__(self, other):
        return isinstance(other, Schema) and self.text == other.text

    def _check_known(self, line, table):
        if table not in self._columns:
            raise UnknownName(line, table)

    def _read_line(self, line, words):
        if not _has_form(words):
            raise BadLine(line)
        if words[0] == "root":
            self._read_table(line, words[1], None, words[2:])
        elif words[0] == "table":
            self._read_table(line, words[1], words[2], words[3:])
        elif words[0] == "owner":
            self._read_owner(line, words[1], words[2])
        else:
            self._read_follow(line, words[1], words[2], words[3])

    def _read_table(self, line, table, parent, columns):
        if table in self._columns:
            raise DuplicateName(line, table)
        if parent is not None:
            self._check_known(line, parent)
        for at, column in enumerate(columns):
            if column in columns[:at]:
                raise DuplicateName(line, column)
        self._parents[table] = parent
        self._columns[table] = columns
        self._follows[table] = {}
        self._check_limits(line, table)

    def _check_limits(self, line, table):
        if len(self._columns[table]) > Schema.MOST_COLUMNS:
            raise TooMany(line)
        if len(self._columns) > Schema.MOST_TABLES:
            raise TooMany(line)
        if len(self.chain_of(table)) > Schema.LONGEST_CHAIN:
            raise TooMany(line)

    def _read_owner(self, line, table, position):
        self._check_known(line, table)
        if table in self._owners:
            raise DuplicateName(line, table)
        self.check_position(line, table, position.split("."))
        self._owners[table] = position

    def _read_follow(self, line, table, column, source):
        self._check_known(line, table)
        if column not in self._columns[table]:
            raise UnknownName(line, column)
        if column in self._follows[table]:
            raise DuplicateName(line, column)
        parent = self._parents[table]
        # A root table has no parent column, so no name is known there.
        if parent is None or source not in self._columns[parent]:
            raise UnknownName(line, source)
        self._follows[table][column] = source
