"""Ways: how the calls of a handler touch rows, and the doubts whether these belong to the caller (points 59 and 60)."""

from ownersagree.cases import cases
from ownersagree.doubts import Doubt
from ownersagree.levels import chains_of, has_row
from ownersagree.settings import handler_setting
from ownersagree.shapes import Shape


def ways_of(handler):
    """Returns for each way, in order, the pair of the way and its doubts; there are none if nobody owns the rows."""
    found = []
    for index, deed in enumerate(handler.parsed_deeds()):
        for kind, table, doubts in _ways_of_deed(handler, deed):
            found.append(((index, kind, table), doubts))
    return found


def _ways_of_deed(handler, deed):
    """Returns for each way of a line its kind, its table and its doubts."""
    table = deed.table
    if deed.kind == "set":
        return [("set", table, _argument_doubts(handler, deed.row))]
    if deed.kind == "move":
        return [("moved", table, _argument_doubts(handler, deed.row))] + _under_ways(handler, deed)
    if deed.kind == "new":
        return _under_ways(handler, deed) + [("new", table, _new_doubts(handler, deed))]
    if deed.kind == "each":
        return [("each", table, _below_doubts(handler, deed.row, table))]
    schema = handler.schema
    lower = [other for other in schema.tables() if table in schema.chain_of(other)[1:]]
    return [("taken", table, _argument_doubts(handler, deed.row))] + [
        ("taken", other, _below_doubts(handler, deed.row, other)) for other in lower]


def _under_ways(handler, deed):
    """Returns the way of the row parameter, if it is one, under which a line puts another row."""
    return [("under", table, _argument_doubts(handler, name)) for name, table in handler.row_parameters()
            if name == deed.under]


def _argument_doubts(handler, name):
    """Returns the doubts whether the argument of a row parameter belongs to the caller."""
    setting = handler_setting(handler)
    stand = setting.stands[name]
    owner = handler.schema.owner_of(setting.piece_tables[stand[0]])
    if owner is None:
        return []
    apart = [(setting.spot_at(stand, owner), "me")]
    return [Doubt(handler, setting, setting.pairs_of(handler.needs()), apart, stand)]


def _new_doubts(handler, deed):
    """Returns the doubts whether a new row that stays in the base belongs to the caller after the call."""
    schema = handler.schema
    owner = schema.owner_of(deed.table)
    if owner is None:
        return []
    shapes = [Shape(handler, deed.table, case) for case in cases(handler, deed.table) if case[0] == ("new", deed.row)]
    at = schema.positions(deed.table).index(owner)
    return [Doubt(handler, shape.setting, shape.guards, [(shape.sources[at], "me")], deed.row) for shape in shapes]


def _below_doubts(handler, name, table):
    """Returns the doubts whether the rows of a table that lie below a row belong to the caller before the call.

    The rows lie there after the first step of the call, also if the call takes them then.
    """
    owner = handler.schema.owner_of(table)
    if owner is None:
        return []
    shapes = [Shape(handler, table, levels) for levels in chains_of(handler, table)
              if levels[0][0] == "old" and any([has_row(level, name) for level in levels[1:]])]
    return [Doubt(handler, shape.setting, shape.guards, [(shape.setting.spot_at((0, 0), owner), "me")], (0, 0))
            for shape in shapes]
