"""Questions: which rows of a table a caller asks for (point 55)."""

from ownersagree.errors import BadLine, TooMany, WrongTable
from ownersagree.forms import place_of
from ownersagree.handlers import check_parameters
from ownersagree.scopes import Scope

# A line does not stand before a line of a lower place.
FORMS = (
    (0, "question NAME"),
    (1, "row NAME in NAME"),
    (1, "value NAME"),
    (2, "find NAME in NAME"),
    (2, "find NAME in NAME below NAME"),
    (3, "where TERM = TERM"),
)


class Question:
    """A question: its parameters, the rows that it looks through, and the conditions."""

    MOST_CONDITIONS = 8

    def __init__(self, schema, text):
        self.name = ""
        self.text = text
        self.schema = schema
        self._scope = Scope(schema)
        self._row_parameters = []
        self._found = None
        self._conditions = []
        lines = text.split("\n")
        last = 0
        for number, line in enumerate(lines, start=1):
            words = line.split(" ")
            place = place_of(number, words, FORMS)
            self._check_place(number, place, last)
            last = place
            self._read_line(number, words)
        if self._found is None:
            raise BadLine(len(lines) + 1)

    @staticmethod
    def read(schema, text):
        """Returns the question of a text; raises the error of its first wrong line (point 6)."""
        return Question(schema, text)

    def row_parameters(self):
        """Returns the pairs of a row parameter and its table, in order."""
        return list(self._row_parameters)

    def value_parameters(self):
        """Returns the names of the value parameters, in order."""
        return self._scope.value_parameters()

    def found(self):
        """Returns the name of the row that is found, its table, and the row that it lies below, or None."""
        return self._found

    def conditions(self):
        """Returns the conditions as pairs of terms, in order."""
        return list(self._conditions)

    def _check_place(self, line, place, last):
        """Raises BadLine if a line does not stand at its place: the one `find` line parts those before and behind."""
        if place < last or (place == 0) != (line == 1):
            raise BadLine(line)
        if (place == 2 and last == 2) or (place == 3 and last < 2):
            raise BadLine(line)

    def _read_line(self, line, words):
        if words[0] == "question":
            self.name = words[1]
        elif words[0] in ("row", "value"):
            self._scope.read_parameter(line, words)
            check_parameters(line, self._scope)
        elif words[0] == "find":
            self._read_find(line, words)
        else:
            self._conditions.append(self._scope.read_equation(line, words))
            if len(self._conditions) > Question.MOST_CONDITIONS:
                raise TooMany(line)

    def _read_find(self, line, words):
        name, table = words[1], words[3]
        above = words[5] if len(words) > 4 else None
        self._row_parameters = self._scope.row_parameters()
        self._scope.check_new(line, name)
        self._scope.check_table(line, table)
        if above is not None and self._scope.table_of(line, above) not in self.schema.chain_of(table)[1:]:
            raise WrongTable(line, above)
        # From here on, terms may begin with the row that is found, too.
        self._scope.define_row(name, table)
        self._found = (name, table, above)
