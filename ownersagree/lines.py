"""Lines of derivations, with their sources (point 43)."""


class Line:
    """A line: a call that leaves a row with marks, and the lines that leave the chains that the call needs."""

    def __init__(self, shape, sources, marks):
        self.shape = shape
        self.sources = tuple(sources)
        self.marks = marks
        self.depth = 1 + max([int(source.depth) for source in sources], default=0)
        self.size = 1 + size_of(sources)


def size_of(lines):
    """Returns the number of calls that it takes to build a row for each of some lines."""
    return sum([line.size for line in lines])


def _needed_for(last):
    """Returns a line and all that it rests on, each once, behind their sources."""
    needed = {}
    waiting = [last]
    while waiting:
        line = waiting.pop()
        key = (line.shape.table, line.marks)
        if key not in needed:
            needed[key] = line
            waiting.extend(line.sources)
    return [one for depth in range(1, last.depth + 1) for one in needed.values() if one.depth == depth]


def derivation_of(last):
    """Returns the derivation that ends with a line of a survey, where no two lines have the same table and marks."""
    lines = _needed_for(last)
    index = {(line.shape.table, line.marks): at for at, line in enumerate(lines)}
    return [(line.shape.handler.name, line.shape.table, line.shape.levels,
             tuple([index[(source.shape.table, source.marks)] for source in line.sources])) for line in lines]
