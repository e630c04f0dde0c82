"""The errors of the package (point 4).

The arguments of an error are its attributes. The messages are made only when they are asked for,
because an argument may be of any kind, and one that can not be written must not hide the error.
"""


def _place(line):
    """Returns the beginning of a message; line 0 means that no text was read."""
    if line == 0:
        return ""
    return f"line {line}: "


class AgreeError(ValueError):
    """The base class of all errors of the package."""


class BadLine(AgreeError):
    """A line has none of the forms, or does not stand at its place."""

    def __init__(self, line):
        self.line = line

    def __str__(self):
        return f"{_place(self.line)}none of the forms, or not at its place"


class DuplicateName(AgreeError):
    """A name that must be new is taken."""

    def __init__(self, line, name):
        self.line = line
        self.name = name

    def __str__(self):
        return f"{_place(self.line)}{self.name} is not new"


class UnknownName(AgreeError):
    """A name that must be known is not."""

    def __init__(self, line, name):
        self.line = line
        self.name = name

    def __str__(self):
        return f"{_place(self.line)}{self.name} is not known"


class WrongTable(AgreeError):
    """A row or a table does not fit, because of its table."""

    def __init__(self, line, name):
        self.line = line
        self.name = name

    def __str__(self):
        return f"{_place(self.line)}{self.name} does not fit, because of its table"


class WrongCount(AgreeError):
    """There are too many or too few terms, rows, values or patterns."""

    def __init__(self, line):
        self.line = line

    def __str__(self):
        return f"{_place(self.line)}too many or too few are given"


class TooMany(AgreeError):
    """A limit is exceeded."""

    def __init__(self, line):
        self.line = line

    def __str__(self):
        return f"{_place(self.line)}beyond a limit"


class BadPattern(AgreeError):
    """The blocks of a pattern are wrong at a string, which is empty if a list has no position."""

    def __init__(self, place):
        self.place = place

    def __str__(self):
        if self.place == "":
            return "a list has no position"
        return f"{self.place} is wrong at its place in the lists"


class ConstantsMeet(AgreeError):
    """Two different constants would be joined."""

    def __init__(self, first, second):
        self.first = first
        self.second = second

    def __str__(self):
        return f"{self.first} and {self.second} would be joined"


class OtherPlaces(AgreeError):
    """A pattern has other places, or has them in another order."""

    def __str__(self):
        return "the pattern has other places, or another order of them"


class OtherSchema(AgreeError):
    """Something belongs to another schema."""

    def __str__(self):
        return "the schema is another one"


class BadValue(AgreeError):
    """Something that must be a value is none."""

    def __init__(self, value):
        self.value = value

    def __str__(self):
        return f"{self.value!r} is no value"


class NoRow(AgreeError):
    """A table has no row of a number."""

    def __init__(self, table, number):
        self.table = table
        self.number = number

    def __str__(self):
        return f"{self.table} has no row {self.number}"


class Refused(AgreeError):
    """A call is not allowed: by a guard, or by an agreement of a watched base if guard is None."""

    def __init__(self, handler, guard, agreement=None, number=None):
        self.handler = handler
        self.guard = guard
        self.agreement = agreement
        self.number = number

    def __str__(self):
        if self.guard is None:
            return f"{self.handler} would break {self.agreement!r} at row {self.number}"
        return f"guard {self.guard} refuses {self.handler}"


class Broken(AgreeError):
    """A row would break an agreement of a watched base."""

    def __init__(self, agreement, number):
        self.agreement = agreement
        self.number = number

    def __str__(self):
        return f"row {self.number} would break {self.agreement!r}"


class BadCase(AgreeError):
    """Something is not a case of the handler and the table."""

    def __str__(self):
        return "not a case of the handler and the table"


class TooManyPatterns(AgreeError):
    """A table has too many patterns in a layer of a survey."""

    def __init__(self, table):
        self.table = table

    def __str__(self):
        return f"{self.table} has too many patterns"


class BadDerivation(AgreeError):
    """A line of a derivation is wrong; line is its index, from 0."""

    def __init__(self, line):
        self.line = line

    def __str__(self):
        return f"wrong at index {self.line} of the derivation"


class NotReachable(AgreeError):
    """No row can have the pattern after a history."""

    def __str__(self):
        return "no row can have the pattern"


class TooLong(AgreeError):
    """A history would have too many calls."""

    def __init__(self, size):
        self.size = size

    def __str__(self):
        return f"{self.size} calls are too many"


class NotComparable(AgreeError):
    """Two questions have other parameters, or find other rows."""

    def __str__(self):
        return "the questions have other parameters, or another find line"


class BadOffer(AgreeError):
    """Something is not an offer; number is its index, from 0."""

    def __init__(self, number):
        self.number = number

    def __str__(self):
        return f"no offer at index {self.number}"
