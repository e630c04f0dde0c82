"""Settings: the chains before a call or a question, and where the rows of its names stand on them (points 34, 35)."""

from ownersagree.joins import position_at


class Setting:
    """Some chains, and the rows on them.

    piece_tables has the table of the lowest row of each chain. stands tells for the name of a row the index of its
    chain, and how many steps the row stands above the lowest one.
    """

    def __init__(self, schema, piece_tables, stands):
        self.schema = schema
        self.piece_tables = list(piece_tables)
        self.stands = dict(stands)

    def place_rows(self, parameters):
        """Gives each row parameter that does not stand on a chain yet a chain of its own, on which it is the lowest."""
        for name, table in parameters:
            if name not in self.stands:
                self.stands[name] = (len(self.piece_tables), 0)
                self.piece_tables.append(table)

    def spot_at(self, stand, position):
        """Returns the spot of a position of the row that stands somewhere."""
        piece, height = stand
        table = self.piece_tables[piece]
        place = position_at(self.schema.chain_of(table), height, position)
        return (piece, self.schema.positions(table).index(place))

    def spot_of(self, term):
        """Returns the spot of a term."""
        name, dot, position = term.partition(".")
        if dot == "":
            return term
        return self.spot_at(self.stands[name], position)

    def pairs_of(self, equations):
        """Returns the pairs of the spots of pairs of terms."""
        return [(self.spot_of(left), self.spot_of(right)) for left, right in equations]


def handler_setting(handler):
    """Returns the setting in which each row parameter of a handler has a chain of its own."""
    setting = Setting(handler.schema, [], {})
    setting.place_rows(handler.row_parameters())
    return setting


def question_setting(question):
    """Returns the setting of a question: the first chain is that of the row that is found."""
    name, table, above = question.found()
    stands = {name: (0, 0)}
    tables = question.schema.chain_of(table)
    for parameter, home in question.row_parameters():
        if parameter == above:
            stands[parameter] = (0, tables.index(home))
    setting = Setting(question.schema, [table], stands)
    setting.place_rows(question.row_parameters())
    return setting
