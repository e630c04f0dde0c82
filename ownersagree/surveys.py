"""Surveys: the patterns that rows can have after all histories of a system (points 37 to 42 and 45)."""

from ownersagree.choices import least_choice
from ownersagree.errors import NotReachable, OtherSchema
from ownersagree.layers import layers_of
from ownersagree.lines import derivation_of
from ownersagree.marks import is_covered, is_finer, marks_at, pattern_from
from ownersagree.settings import handler_setting


def survey(system):
    """Returns the survey of a system."""
    return Survey(system)


class Survey:
    """The layers of a system."""

    def __init__(self, system):
        self.system = system
        self._layers = layers_of(system)
        self.rounds = len(self._layers) - 1

    def lines(self, table, depth):
        """Returns the lines of a layer of a table, in no order that is promised."""
        return list(self._layers[min(int(depth), self.rounds)][table])

    def patterns(self, table, *, depth=None):
        """Returns the finest patterns of a table, or those of a layer, ordered by their texts."""
        places = self.system.schema.positions(table)
        lines = self.lines(table, self.rounds if depth is None else depth)
        return sorted([pattern_from(places, line.marks) for line in lines], key=str)

    def depth_of(self, table, pattern):
        """Returns the least number of a layer with a pattern that is finer than a pattern or equal to it, or None."""
        marks = marks_at(self.system.schema, table, pattern)
        for depth in range(self.rounds + 1):
            if is_covered(marks, [line.marks for line in self.lines(table, depth)]):
                return depth
        return None

    def able(self, name):
        """Tells whether some history can be continued by an allowed call of a handler."""
        handler = self.system[name]
        setting = handler_setting(handler)
        lists = [self.lines(table, self.rounds) for table in setting.piece_tables]
        return least_choice(setting.pairs_of(handler.needs()), None, lists) is not None

    def derivation(self, table, pattern):
        """Returns a derivation of a pattern that is finer than a pattern or equal to it, with the least depth."""
        depth = self.depth_of(table, pattern)
        if depth is None:
            raise NotReachable()
        return derivation_of(self.line_for(table, marks_at(self.system.schema, table, pattern), depth))

    def line_for(self, table, marks, depth):
        """Returns a line of a layer, with marks that are finer than marks or equal to them, of the least size."""
        lines = [line for line in self.lines(table, depth) if is_finer(line.marks, marks)]
        least = lines[0]
        for line in lines:
            if line.size < least.size:
                least = line
        return least

    def listing(self):
        """Returns a text for each finest pattern: the table, the depth and the pattern."""
        return [f"{table:<12} {self.depth_of(table, pattern):>4} {str(pattern)}"
                for table in self.system.schema.tables() for pattern in self.patterns(table)]

    def __le__(self, other):
        if not _have_same_places(self.system.schema, other.system.schema):
            raise OtherSchema()
        return all([is_covered(line.marks, [theirs.marks for theirs in other.lines(table, other.rounds)])
                    for table in self.system.schema.tables() for line in self.lines(table, self.rounds)])


def _have_same_places(first, second):
    """Tells whether two schemas have the same tables, in the same order, with the same positions."""
    if first.tables() != second.tables():
        return False
    return all([first.positions(table) == second.positions(table) for table in first.tables()])
