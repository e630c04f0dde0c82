"""What an allowed call does to the rows (points 25 to 27 and 59)."""


class Effect:
    """The rows that a call has put in, the store after it, and the ways in which it touches rows.

    The store _whole is as after the call, but still has the rows that the call takes out.
    """

    def __init__(self, before, handler, scene):
        self.made = []
        self._before = before
        self._handler = handler
        self._scene = scene
        self._rows = dict(scene.rows)
        self._whole = before.twin()
        self._shape()
        self._write()
        # No other row can have changed, or have a chain that has.
        near = self._whole.near(list(scene.rows.values()) + self.made)
        self._whole.follow(near)
        self._deepen(near)
        self.after = self._whole.twin()
        self.after.take_out(self._taken())

    def touched(self):
        """Returns a tuple of the index of a line, a kind and an address for each row that the call touches."""
        return [(index, kind, address) for index, deed in enumerate(self._handler.parsed_deeds())
                for kind, address in self._ways(deed)]

    def _shape(self):
        """Takes the first step: `new` and `move` lines."""
        for deed in self._handler.parsed_deeds():
            above = None if deed.under is None else self._rows[deed.under][1]
            if deed.kind == "new":
                address = self._whole.put_in(deed.table, above, self._new_cells(deed))
                self._rows[deed.row] = address
                self.made.append(address)
            elif deed.kind == "move":
                self._whole.set_above(self._rows[deed.row], above)

    def _new_cells(self, deed):
        columns = self._handler.schema.columns(deed.table)
        return {column: self._scene.value_of(term) for column, term in zip(columns, deed.terms)}

    def _write(self):
        """Takes the second step: `set` and `each` lines."""
        for deed in self._handler.parsed_deeds():
            row = self._rows[deed.row]
            if deed.kind == "set":
                self._whole.set_cell(row, deed.column, self._scene.value_of(deed.terms[0]))
            elif deed.kind == "each":
                value = self._scene.value_of(deed.terms[0])
                for address in self._whole.below(row, deed.table):
                    self._whole.set_cell(address, deed.column, value)

    def _deepen(self, near):
        """Gives the touched rows their depths; new rows have depth 0 until then."""
        least = max([int(self._before.entry(address).depth) for address in self._scene.rows.values()], default=0)
        for address in near:
            self._whole.set_depth(address, 1 + max(least, int(self._whole.entry(address).depth)))

    def _taken(self):
        """Returns the addresses of the rows that the fourth step takes out."""
        return self._whole.near([self._rows[deed.row] for deed in self._handler.parsed_deeds() if deed.kind == "take"])

    def _ways(self, deed):
        """Returns the pairs of a kind and an address for a line, in the order of point 59."""
        row = self._rows[deed.row]
        if deed.kind == "set":
            return [("set", row)]
        if deed.kind == "move":
            return [("moved", row)] + self._under(deed)
        if deed.kind == "new":
            return self._under(deed) + [("new", address) for address in [row] if self.after.has(*address)]
        if deed.kind == "each":
            return [("each", address) for address in self._whole.below(row, deed.table) if self._before.has(*address)]
        return [("taken", address) for address in self._whole.near([row]) if self._before.has(*address)]

    def _under(self, deed):
        """Returns the way of the row parameter, if it is one, under which a line puts another row."""
        if deed.under in self._scene.rows:
            return [("under", self._scene.rows[deed.under])]
        return []
