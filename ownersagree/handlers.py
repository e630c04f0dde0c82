"""Handlers: the only ways in which the rows may change (points 16 to 20)."""

from ownersagree.deeds import read_deed
from ownersagree.errors import BadLine, TooMany
from ownersagree.forms import place_of
from ownersagree.scopes import Scope

# A line does not stand before a line of a lower place.
FORMS = (
    (0, "handler NAME"),
    (1, "row NAME in NAME"),
    (1, "value NAME"),
    (2, "need TERM = TERM"),
    (3, "new NAME in NAME with TERM .."),
    (3, "new NAME in NAME under NAME with TERM .."),
    (3, "move NAME under NAME"),
    (3, "set NAME.NAME = TERM"),
    (3, "each NAME below NAME sets NAME = TERM"),
    (3, "take NAME"),
)


class Handler:
    """A handler: its parameters, its guards, and the lines that change the base."""

    MOST_ROWS = 3
    MOST_VALUES = 4
    MOST_NEEDS = 8
    MOST_DEEDS = 8

    def __init__(self, schema, text):
        self.name = ""
        self.text = text
        self.schema = schema
        self._scope = Scope(schema)
        self._needs = []
        self._deed_lines = []
        self._deeds = []
        last = 0
        for number, line in enumerate(text.split("\n"), start=1):
            words = line.split(" ")
            place = place_of(number, words, FORMS)
            if place < last or (place == 0) != (number == 1):
                raise BadLine(number)
            last = place
            self._read_line(number, words)

    @staticmethod
    def read(schema, text):
        """Returns the handler of a text; raises the error of its first wrong line (point 6)."""
        return Handler(schema, text)

    def row_parameters(self):
        """Returns the pairs of a row parameter and its table, in order."""
        return self._scope.row_parameters()

    def value_parameters(self):
        """Returns the names of the value parameters, in order."""
        return self._scope.value_parameters()

    def needs(self):
        """Returns the guards as pairs of terms, in order."""
        return list(self._needs)

    def deeds(self):
        """Returns the lines that change the base, as strings, in order."""
        return list(self._deed_lines)

    def parsed_deeds(self):
        """Returns the lines that change the base, as Deed objects, in order."""
        return list(self._deeds)

    def __call__(self, base, me, rows, values):
        return base.run((self.name, me, rows, values))

    def _read_line(self, line, words):
        if words[0] == "handler":
            self.name = words[1]
        elif words[0] in ("row", "value"):
            self._scope.read_parameter(line, words)
            check_parameters(line, self._scope)
        elif words[0] == "need":
            self._needs.append(self._scope.read_equation(line, words))
            if len(self._needs) > Handler.MOST_NEEDS:
                raise TooMany(line)
        else:
            self._deeds.append(read_deed(self._scope, line, words))
            self._deed_lines.append(" ".join(words))
            if len(self._deeds) > Handler.MOST_DEEDS:
                raise TooMany(line)


def check_parameters(line, scope):
    """Raises TooMany if there are more parameters than a handler or a question may have (point 20)."""
    if len(scope.row_parameters()) > Handler.MOST_ROWS or len(scope.value_parameters()) > Handler.MOST_VALUES:
        raise TooMany(line)
