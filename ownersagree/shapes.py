"""Shapes: what a call does to the chain of a row (points 34 and 35)."""

from ownersagree.joins import label_of, root_of, unite
from ownersagree.levels import has_row, under_of
from ownersagree.marks import marks_from
from ownersagree.settings import Setting


def _stands_of(handler, levels):
    """Returns for each level where its row stands before the call, a piece and a height there; None for a new row."""
    stands = []
    piece, height = -1, 0
    goes_on = False
    for level in levels:
        if level[0] == "new":
            stands.append(None)
            goes_on = False
        else:
            piece, height = (piece, height + 1) if goes_on else (piece + 1, 0)
            stands.append((piece, height))
            # Before the call, the row above a row that is moved was another one.
            goes_on = under_of(handler, level) is None
    return stands


class Shape:
    """A chain of a row after the first step of a call, as levels describe it.

    stands tells for each level where its row stands in the setting before the call, None for a new row. guards are the
    pairs of spots that an allowed call joins. sources has the spot of each position of the table: what stands there
    after the call.
    """

    def __init__(self, handler, table, levels):
        self.handler = handler
        self.table = table
        self.levels = levels
        self.stands = _stands_of(handler, levels)
        self.homes = handler.schema.chain_of(table)
        self.setting = self._setting()
        self.guards = self.setting.pairs_of(handler.needs())
        self.sources = self._sources()

    def result(self, choice):
        """Returns the marks of the row after the call for a choice of marks of the pieces, or None (point 35).

        The marks of the pieces must have joined the columns that follow.
        """
        joined = unite(self.guards, choice)
        if joined is None:
            return None
        return marks_from([root_of(joined, label_of(spot, choice)) for spot in self.sources])

    def _setting(self):
        """Returns the setting before the call: the runs of the chain, then the other row parameters."""
        lowest = [home for home, stand in zip(self.homes, self.stands) if stand is not None and stand[1] == 0]
        stands = {name: stand for level, stand in zip(self.levels, self.stands) if stand is not None
                  for name in level[1]}
        setting = Setting(self.handler.schema, lowest, stands)
        setting.place_rows(self.handler.row_parameters())
        return setting

    def _sources(self):
        schema = self.handler.schema
        cells = [self._cells_before(height) for height in range(len(self.homes))]
        for deed in self.handler.parsed_deeds():
            for height in range(len(self.homes)):
                if self._is_written(deed, height):
                    cells[height][deed.column] = self.setting.spot_of(deed.terms[0])
        for height in range(len(self.homes) - 2, -1, -1):
            for column, source in schema.follows(self.homes[height]):
                cells[height][column] = cells[height + 1][source]
        return [cells[height][column] for height, home in enumerate(self.homes) for column in schema.columns(home)]

    def _cells_before(self, height):
        """Returns the spots of the columns of a level, before the `set` and `each` lines."""
        columns = self.handler.schema.columns(self.homes[height])
        stand = self.stands[height]
        if stand is not None:
            return {column: self.setting.spot_at(stand, column) for column in columns}
        terms = [term for deed in self.handler.parsed_deeds()
                 if deed.kind == "new" and has_row(self.levels[height], deed.row) for term in deed.terms]
        return {column: self.setting.spot_of(term) for column, term in zip(columns, terms)}

    def _is_written(self, deed, height):
        """Tells whether a `set` or `each` line writes the row of a level."""
        if deed.kind == "set":
            return has_row(self.levels[height], deed.row)
        if deed.kind == "each":
            above = self.levels[height + 1:]
            return deed.table == self.homes[height] and any([has_row(level, deed.row) for level in above])
        return False
