"""Systems: a schema and the handlers over it (point 21)."""

from ownersagree.errors import DuplicateName, OtherSchema, TooMany, UnknownName
from ownersagree.texts import is_constant


def _constants_of(handler):
    """Returns the constants of a handler, in its guards and in what it writes."""
    terms = [term for pair in handler.needs() for term in pair]
    terms = terms + [term for deed in handler.parsed_deeds() for term in deed.terms]
    return [term for term in terms if is_constant(term)]


def _constants_in(handlers):
    """Returns the constants of handlers, each once, in ascending order."""
    # A dict, not a set: beside classes with an order, only a list of plain texts is sorted.
    found = {term: True for handler in handlers for term in _constants_of(handler)}
    return sorted([str(term) for term in found])


class System:
    """A schema and a list of handlers over it."""

    MOST_HANDLERS = 16

    def __init__(self, schema, handlers):
        if len(handlers) > System.MOST_HANDLERS:
            raise TooMany(0)
        self.schema = schema
        self._handlers = {}
        for handler in handlers:
            if handler.schema.text != schema.text:
                raise OtherSchema()
            if handler.name in self._handlers:
                raise DuplicateName(0, handler.name)
            self._handlers[handler.name] = handler
        self._constants = _constants_in(handlers)

    @staticmethod
    def of(schema, *handlers):
        """Returns the system of a schema and any number of handlers."""
        return System(schema, handlers)

    def names(self):
        """Returns the names of the handlers, in order."""
        return list(self._handlers)

    def constants(self):
        """Returns the constants that occur in the handlers, each once, in ascending order."""
        return list(self._constants)

    def __getitem__(self, at):
        if at not in self.names():
            raise UnknownName(0, at)
        return self._handlers[at]

    def __contains__(self, x):
        return x in self.names()

    def __len__(self):
        return len(self._handlers)

    def __iter__(self):
        raise TypeError("a system is not iterated over: take its names()")
