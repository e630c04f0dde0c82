"""The rows of a base at one moment."""


class Entry:
    """What a store knows of a row. It is never changed, so that stores can share it."""

    def __init__(self, above, cells, depth):
        self.above = above
        self.cells = cells
        self.depth = depth


class Store:
    """All rows at one moment, and how many each table has had.

    A base never changes the store that it holds: it changes a twin, and takes it if no error comes up.
    The rows of each table stand in ascending order, because a new one has the greatest number.
    """

    def __init__(self, schema):
        self._schema = schema
        self._entries = {table: {} for table in schema.tables()}
        self._last = {table: 0 for table in schema.tables()}

    def twin(self):
        """Returns another store with the same rows."""
        other = Store(self._schema)
        other._entries = {table: dict(entries) for table, entries in self._entries.items()}
        other._last = dict(self._last)
        return other

    def has(self, table, number):
        """Tells whether a table has a row; the number may be of any kind."""
        if not isinstance(number, int) or isinstance(number, bool):
            return False
        return number in self._entries[table]

    def numbers(self, table):
        """Returns the numbers of the rows of a table, in ascending order."""
        return list(self._entries[table])

    def addresses(self):
        """Returns the addresses of all rows, those of parent tables first."""
        return [(table, number) for table in self._schema.tables() for number in self._entries[table]]

    def entry(self, address):
        """Returns the entry of a row."""
        table, number = address
        return self._entries[table][number]

    def address_above(self, address):
        """Returns the address of the parent row; its number is None for a row of a root table."""
        return (self._schema.parent_of(address[0]), self.entry(address).above)

    def chain_of(self, address):
        """Returns the addresses of the chain of a row, from the row upwards."""
        return [self._lifted(address, steps) for steps in range(len(self._schema.chain_of(address[0])))]

    def value_at(self, address, position):
        """Returns the value at a position of the table of a row."""
        names = position.split(".")
        return self.entry(self._lifted(address, len(names) - 1)).cells[names[-1]]

    def near(self, starts):
        """Returns the addresses of the rows with a row of a list on their chains, those of parent tables first."""
        found = {}
        for table in self._schema.tables():
            parent = self._schema.parent_of(table)
            for number, entry in self._entries[table].items():
                if (table, number) in starts or (parent, entry.above) in found:
                    found[(table, number)] = True
        return list(found)

    def below(self, address, table):
        """Returns the addresses of the rows of another table that lie below a row, in ascending order."""
        return [other for other in self.near([address]) if other[0] == table]

    def put_in(self, table, above, cells):
        """Puts in a row with the next number of its table and depth 0, and returns its address."""
        number = self._last[table] + 1
        self._last[table] = number
        self._entries[table][number] = Entry(above, cells, 0)
        return (table, number)

    def set_above(self, address, above):
        """Gives a row another parent row."""
        entry = self.entry(address)
        self._set_entry(address, Entry(above, entry.cells, entry.depth))

    def set_cell(self, address, column, value):
        """Writes a column of a row."""
        entry = self.entry(address)
        self._set_entry(address, Entry(entry.above, {**entry.cells, column: value}, entry.depth))

    def set_depth(self, address, depth):
        """Gives a row another depth."""
        entry = self.entry(address)
        self._set_entry(address, Entry(entry.above, entry.cells, depth))

    def follow(self, addresses):
        """Overwrites the columns that follow, in rows that are listed with those of parent tables first."""
        for address in addresses:
            for column, source in self._schema.follows(address[0]):
                self.set_cell(address, column, self.entry(self.address_above(address)).cells[source])

    def take_out(self, addresses):
        """Takes rows out; their numbers are not used again."""
        for table, number in addresses:
            del self._entries[table][number]

    def _lifted(self, address, steps):
        """Returns the address of the row that lies some steps above a row."""
        here = address
        for _ in range(steps):
            here = self.address_above(here)
        return here

    def _set_entry(self, address, entry):
        table, number = address
        self._entries[table][number] = entry
