"""Verdicts: what is told of agreements, questions, handlers and systems (points 53, 54, 57, 58, 60, 62 and 63)."""


def _failure(verdict):
    """Returns the text that the summaries of all failures begin with."""
    return f"fails at depth {verdict.depth} after {verdict.size} calls"


class Verdict:
    """What is told: it holds, and depth and size are None, or it fails."""

    def __init__(self, depth, size):
        self.depth = depth
        self.size = size

    def __bool__(self):
        return self.depth is None

    def summary(self):
        """Returns the verdict in words."""
        return "holds" if self.depth is None else _failure(self)


class Holds(Verdict):
    """It holds."""

    def __init__(self):
        Verdict.__init__(self, None, None)


class Within(Holds):
    """All rows belong to the caller or to nobody; rests tells why."""

    def __init__(self, rests):
        Holds.__init__(self)
        self.rests = rests

    def summary(self):
        """Returns the verdict in words."""
        return f"holds: rests on {self.rests}"


class Fails(Verdict):
    """It fails, as the history of a script shows."""

    def __init__(self, depth, script):
        Verdict.__init__(self, depth, script.size)
        self._script = script

    def history(self):
        """Returns the calls of a history, and the address of a row that shows the failure."""
        calls, address, _ = self._script.told()
        return (calls, address)


class Asked(Fails):
    """A question finds a row that it should not find, or another question does not find it."""

    def __init__(self, depth, script, table, side):
        Fails.__init__(self, depth, script)
        self.side = side
        self._table = table

    def asked(self):
        """Returns the caller, the rows and the values of the question."""
        _, _, arguments = self._script.told()
        return arguments

    def summary(self):
        """Returns the verdict in words."""
        return f"{_failure(self)}: {self._table}"


class Touched(Fails):
    """A call touches a row of somebody else in a way."""

    def __init__(self, depth, script, way):
        Fails.__init__(self, depth, script)
        self.way = way

    def summary(self):
        """Returns the verdict in words."""
        return f"{_failure(self)}: {self.way[1]} {self.way[2]}"


class Parted(Fails):
    """Rows can have a pattern in one of two systems alone."""

    def __init__(self, depth, script, side, table, pattern):
        Fails.__init__(self, depth, script)
        self.side = side
        self.table = table
        self.pattern = pattern

    def summary(self):
        """Returns the verdict in words."""
        return f"{_failure(self)}: side {self.side}"
