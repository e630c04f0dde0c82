"""Cases and steps: what a call does to the chain of one row (points 33 to 36)."""

from ownersagree.errors import BadCase, WrongCount
from ownersagree.joins import follow_pairs, with_joined
from ownersagree.levels import chains_of, is_left, is_reached, read_levels
from ownersagree.marks import marks_at, pattern_from
from ownersagree.shapes import Shape


def cases(handler, table):
    """Yields every case of a handler and a table once."""
    for levels in chains_of(handler, table):
        if is_left(handler, levels) and is_reached(levels):
            yield levels


def pieces(handler, table, case):
    """Returns the tables of the pieces of a case, in the order of point 34."""
    return list(_shape_of(handler, table, case).setting.piece_tables)


def step(handler, table, case, patterns):
    """Returns the pattern after a call, from those of the pieces before it; None if there is no such call."""
    schema = handler.schema
    shape = _shape_of(handler, table, case)
    homes = shape.setting.piece_tables
    if len(patterns) != len(homes):
        raise WrongCount(0)
    given = [marks_at(schema, home, pattern) for home, pattern in zip(homes, patterns)]
    choice = [with_joined(marks, follow_pairs(schema, home)) for home, marks in zip(homes, given)]
    if None in choice:
        return None
    marks = shape.result(choice)
    return None if marks is None else pattern_from(schema.positions(table), marks)


def _shape_of(handler, table, case):
    """Returns the shape of what is passed as a case; raises BadCase if it is none."""
    levels = read_levels(handler, table, case)
    if levels is None:
        raise BadCase()
    return Shape(handler, table, levels)
