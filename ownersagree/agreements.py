"""Sets of agreements, and those that a system holds and keeps (points 48 to 52)."""

from ownersagree.checks import check_agreements
from ownersagree.errors import OtherSchema
from ownersagree.joins import follow_pairs, with_joined
from ownersagree.layers import shapes_of
from ownersagree.marks import is_finer, is_fixed, pattern_from, shared


class Agreements:
    """A set with all agreements that follow from some: marks for each table, or None if no row of it can exist."""

    def __init__(self, schema, agreements):
        check_agreements(schema, agreements)
        self.schema = schema
        self._marks = _complete(schema, agreements)

    @staticmethod
    def of(schema, *agreements):
        """Returns the set of all that follows from any number of agreements."""
        return Agreements(schema, agreements)

    def marks_for(self, table):
        """Returns the marks that join what the agreements of a table say, None if no row can exist."""
        return self._marks[table]

    def pattern_of(self, table):
        """Returns the pattern that joins what the agreements of a table say, None if no row can exist."""
        places = self.schema.positions(table)
        marks = self._marks[table]
        return None if marks is None else pattern_from(places, marks)

    def listed(self):
        """Returns the agreements of the first position of each block with each other member of the block."""
        patterns = [(table, self.pattern_of(table)) for table in self.schema.tables()]
        return [agreement for table, pattern in patterns if pattern is not None
                for agreement in _told_by(table, pattern)]

    def __contains__(self, x):
        check_agreements(self.schema, [x])
        table, left, right = x
        pattern = self.pattern_of(table)
        return pattern is None or (left, right) in pattern

    def __len__(self):
        return len(self.listed())

    def __eq__(self, other):
        return isinstance(other, Agreements) and self.schema == other.schema and self._marks == other._marks

    def __le__(self, other):
        self._check_schema(other)
        return all([_is_within(marks, other.marks_for(table)) for table, marks in self._marks.items()])

    def __and__(self, other):
        self._check_schema(other)
        return _from_marks(self.schema, {table: _in_both(marks, other.marks_for(table))
                                         for table, marks in self._marks.items()})

    def _check_schema(self, other):
        if self.schema.text != other.schema.text:
            raise OtherSchema()


def held(survey):
    """Returns the set of the agreements that hold for every row after every history."""
    schema = survey.system.schema
    found = {table: None for table in schema.tables()}
    for table in schema.tables():
        for line in survey.lines(table, survey.rounds):
            found[table] = _in_both(found[table], line.marks)
    return _from_marks(schema, found)


def kept(system, *, within=None):
    """Returns the greatest set of agreements that is kept, or the greatest one that is contained in a set."""
    schema = system.schema
    if within is not None and within.schema.text != schema.text:
        raise OtherSchema()
    shapes = shapes_of(system)
    found = {table: None if within is None else within.marks_for(table) for table in schema.tables()}
    while True:
        left = _left_of(found, shapes)
        if left == found:
            return _from_marks(schema, found)
        found = left


def _left_of(found, shapes):
    """Returns what is left of marks by tables after every call on rows that have them."""
    left = {table: marks for table, marks in found.items()}
    for shape in shapes:
        choice = [found[home] for home in shape.setting.piece_tables]
        # Where no row can exist, there is no call either.
        marks = None if None in choice else shape.result(choice)
        left[shape.table] = _in_both(left[shape.table], marks)
    return left


def _in_both(first, second):
    """Returns the marks that join what both join; None joins everything."""
    if first is None:
        return second
    return first if second is None else shared(first, second)


def _is_within(marks, others):
    """Tells whether other marks join all that marks join; None joins everything."""
    if marks is None or others is None:
        return others is None
    return is_finer(marks, others)


def _told_by(table, pattern):
    return [(table, block[0], member) for block in pattern.blocks() for member in block[1:]]


def _from_marks(schema, found):
    """Returns the set of agreements that marks by tables say; no more than these must follow from them."""
    told = []
    for table, marks in found.items():
        places = schema.positions(table)
        if marks is None:
            # No row can have two different values.
            told.extend([(table, places[0], constant) for constant in ["'a'", "'b'"]])
        else:
            told.extend(_told_by(table, pattern_from(places, marks)))
    return Agreements(schema, told)


def _complete(schema, agreements):
    """Returns the marks of all tables that join what agreements say, and what follows from it."""
    found = {}
    for table in schema.tables():
        parent = schema.parent_of(table)
        found[table] = _marks_of_table(schema, table, () if parent is None else found[parent], agreements)
    return found


def _marks_of_table(schema, table, above, agreements):
    """Returns the marks of a table, where the positions of the parent table have the marks above."""
    if above is None:
        return None
    own = len(schema.columns(table))
    marks = list(range(own)) + [mark if is_fixed(mark) else own + mark for mark in above]
    places = schema.positions(table)
    pairs = [((0, places.index(left)), right if is_fixed(right) else (0, places.index(right)))
             for home, left, right in agreements if home == table]
    return with_joined(tuple(marks), pairs + follow_pairs(schema, table))
