"""What the names of a handler or a question stand for in a call (points 23 and 24)."""

from ownersagree.errors import BadValue, NoRow, WrongCount
from ownersagree.texts import is_constant, is_value


class Scene:
    """The caller, the rows and the values behind the names; rows is a dict of addresses by names."""

    def __init__(self, store, me, rows, values):
        self.rows = rows
        self._store = store
        self._me = me
        self._values = values

    def with_row(self, name, address):
        """Returns a scene in which a further name stands for a row."""
        return Scene(self._store, self._me, {**self.rows, name: address}, self._values)

    def value_of(self, term):
        """Returns the value of a term."""
        if term == "me":
            return self._me
        if is_constant(term):
            return term[1:-1]
        if term in self._values:
            return self._values[term]
        name, _, position = term.partition(".")
        return self._store.value_at(self.rows[name], position)

    def are_equal(self, pair):
        """Tells whether two terms have equal values."""
        return self.value_of(pair[0]) == self.value_of(pair[1])


def scene_of(store, asked, me, rows, values):
    """Returns the scene of a handler or a question; raises the errors 2 to 4 of point 24."""
    parameters = asked.row_parameters()
    names = asked.value_parameters()
    if len(rows) != len(parameters) or len(values) != len(names):
        raise WrongCount(0)
    for value in [me, *values]:
        if not is_value(value):
            raise BadValue(value)
    addresses = {}
    for number, (name, table) in zip(rows, parameters):
        if not store.has(table, number):
            raise NoRow(table, number)
        addresses[name] = (table, number)
    return Scene(store, me, addresses, {name: value for name, value in zip(names, values)})
