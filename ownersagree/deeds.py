"""The lines of a handler that change the base: `new`, `move`, `set`, `each` and `take` (points 16 to 19)."""

from ownersagree.errors import WrongCount, WrongTable


class Deed:
    """A line that changes the base.

    kind is its first word. row is the row that it puts in, moves, changes or takes, or the one below which it changes
    all rows of a table. table is the table of the rows that it puts in, moves, changes or takes. under is the row that
    gets another row under it, or None. terms are the terms that are written, and column is where, if a line says so.
    """

    def __init__(self, kind, row, table, under, column, terms):
        self.kind = kind
        self.row = row
        self.table = table
        self.under = under
        self.column = column
        self.terms = tuple(terms)


def _check_under(scope, line, table, under):
    """Raises UnknownName if there is no such row, and WrongTable if no row of the table can lie directly under it."""
    if scope.table_of_any(line, under) != scope.schema.parent_of(table):
        raise WrongTable(line, under)


def _read_new(scope, line, words):
    name, table = words[1], words[3]
    under, terms = None, words[5:]
    if words[4] == "under":
        under, terms = words[5], words[7:]
    scope.check_new(line, name)
    scope.check_table(line, table)
    if under is not None:
        scope.table_of_any(line, under)
    for term in terms:
        scope.check_term(line, term)
    if under is not None:
        _check_under(scope, line, table, under)
    elif scope.schema.parent_of(table) is not None:
        raise WrongTable(line, table)
    if len(terms) != len(scope.schema.columns(table)):
        raise WrongCount(line)
    scope.define_new_row(name, table)
    return Deed("new", name, table, under, None, terms)


def _read_move(scope, line, words):
    name, under = words[1], words[3]
    table = scope.table_of(line, name)
    _check_under(scope, line, table, under)
    return Deed("move", name, table, under, None, [])


def _read_set(scope, line, words):
    name, column = words[1].split(".")
    table = scope.table_of(line, name)
    scope.schema.check_position(line, table, [column])
    scope.check_term(line, words[3])
    return Deed("set", name, table, None, column, [words[3]])


def _read_each(scope, line, words):
    table, name, column, term = words[1], words[3], words[5], words[7]
    scope.check_table(line, table)
    above = scope.table_of_any(line, name)
    scope.schema.check_position(line, table, [column])
    scope.check_term(line, term)
    if above not in scope.schema.chain_of(table)[1:]:
        raise WrongTable(line, table)
    return Deed("each", name, table, None, column, [term])


def _read_take(scope, line, words):
    return Deed("take", words[1], scope.table_of(line, words[1]), None, None, [])


def read_deed(scope, line, words):
    """Returns the deed of a line that has one of the five forms; a `new` line defines its row in the scope."""
    if words[0] == "new":
        return _read_new(scope, line, words)
    if words[0] == "move":
        return _read_move(scope, line, words)
    if words[0] == "set":
        return _read_set(scope, line, words)
    if words[0] == "each":
        return _read_each(scope, line, words)
    return _read_take(scope, line, words)
