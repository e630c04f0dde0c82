"""Stories: how histories are made of lines, so that a row has exactly the pattern of a line (points 43 and 46).

In a story, values are tokens: numbers, each of which may still be joined with others or with a constant. In the end,
different values are given to all tokens that are not joined.
"""

from ownersagree.errors import TooLong
from ownersagree.joins import root_of
from ownersagree.marks import is_fixed

MOST_CALLS = 100


def check_size(size):
    """Raises TooLong if a history of so many calls is not told."""
    if size > MOST_CALLS:
        raise TooLong(size)


class Strand:
    """The chain of a row that a story has built: the addresses from the row upwards, and a token for each position."""

    def __init__(self, rows, tokens):
        self.rows = rows
        self.tokens = tokens


class Cast:
    """What the names of a handler or a question stand for in a story."""

    def __init__(self, strands, row_numbers, named):
        self.row_numbers = row_numbers
        self._strands = strands
        self._named = named

    def token_of(self, spot):
        """Returns the token of a spot; a constant is its own token."""
        if is_fixed(spot):
            return spot
        if isinstance(spot, str):
            return self._named[spot]
        piece, at = spot
        return self._strands[piece].tokens[at]


class Story:
    """Calls, one behind the other; values that are free are none of the avoided constants."""

    def __init__(self, schema, avoided):
        self._calls = []
        self._last = {table: 0 for table in schema.tables()}
        self._token_count = 0
        self._joined = {}
        self._avoided = list(avoided)
        self._value_count = 0
        self._values = {}

    def build(self, line):
        """Adds the calls that build a row for a line, and returns its strand."""
        strands = []
        for source in line.sources:
            strands.append(self.build(source))
        shape = line.shape
        cast = self.cast(shape.handler, shape.setting, shape.guards, strands)
        made = self.add_call(shape.handler, cast)
        rows = [made[level[1]] if stand is None else strands[stand[0]].rows[stand[1]]
                for level, stand in zip(shape.levels, shape.stands)]
        return Strand(rows, [cast.token_of(spot) for spot in shape.sources])

    def cast(self, asked, setting, pairs, strands):
        """Returns a cast of a handler or a question, with new values, and joins the spots of each pair in it."""
        stands = [setting.stands[name] for name, _ in asked.row_parameters()]
        row_numbers = tuple([strands[piece].rows[height][1] for piece, height in stands])
        cast = Cast(strands, row_numbers, {name: self._new_token() for name in ["me", *asked.value_parameters()]})
        for left, right in pairs:
            self._join(cast.token_of(left), cast.token_of(right))
        return cast

    def add_call(self, handler, cast):
        """Adds a call, and returns a dict of the addresses of the rows that it puts in."""
        self._calls.append((handler, cast))
        made = {}
        for deed in handler.parsed_deeds():
            if deed.kind == "new":
                self._last[deed.table] += 1
                made[deed.row] = (deed.table, self._last[deed.table])
        return made

    def calls(self):
        """Returns the history; nothing is joined any more."""
        found = []
        for handler, cast in self._calls:
            me, rows, values = self.arguments(handler, cast)
            found.append((handler.name, me, rows, values))
        return found

    def arguments(self, asked, cast):
        """Returns the caller, the rows and the values of a cast; nothing is joined any more."""
        me = self._value_of(cast.token_of("me"))
        values = [self._value_of(cast.token_of(name)) for name in asked.value_parameters()]
        return (me, cast.row_numbers, tuple(values))

    def _new_token(self):
        self._token_count += 1
        return self._token_count

    def _join(self, left, right):
        first, second = root_of(self._joined, left), root_of(self._joined, right)
        if is_fixed(first):
            first, second = second, first
        if first != second:
            self._joined[first] = second

    def _value_of(self, token):
        """Returns the value of a token."""
        root = root_of(self._joined, token)
        if is_fixed(root):
            return root[1:-1]
        if root not in self._values:
            self._values[root] = self._new_value()
        return self._values[root]

    def _new_value(self):
        self._value_count += 1
        while f"'u{self._value_count}'" in self._avoided:
            self._value_count += 1
        return f"u{self._value_count}"
