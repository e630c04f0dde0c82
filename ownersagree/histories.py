"""Derivations, their histories, and lists of patterns that are closed (points 43 to 47)."""

from ownersagree.choices import products
from ownersagree.errors import BadDerivation
from ownersagree.joins import follow_pairs, with_joined
from ownersagree.layers import shapes_of
from ownersagree.levels import read_levels
from ownersagree.lines import Line
from ownersagree.marks import is_covered, marks_of, pattern_from
from ownersagree.shapes import Shape
from ownersagree.stories import Story, check_size


def check_derivation(system, lines):
    """Returns a tuple of table, pattern, depth and size for each line of a derivation."""
    found = []
    for line in _read_lines(system, lines):
        table = line.shape.table
        found.append((table, pattern_from(system.schema.positions(table), line.marks), line.depth, line.size))
    return found


def history(system, lines):
    """Returns a history that a derivation tells, and the address of the row that it leaves."""
    last = _read_lines(system, lines)[-1]
    check_size(last.size)
    story = Story(system.schema, system.constants())
    strand = story.build(last)
    return (story.calls(), strand.rows[0])


def first_gap(system, lists):
    """Returns a step from patterns of lists that leads out of the lists, as the tuple of point 47, or None."""
    schema = system.schema
    given = {home: _marks_in(lists[home]) for home in schema.tables()}
    whole = {home: [with_joined(marks, follow_pairs(schema, home)) for marks in given[home]] for home in given}
    for shape in shapes_of(system):
        homes = shape.setting.piece_tables
        for indexes in products([_indexes_of(whole[home]) for home in homes]):
            found = shape.result([whole[home][index] for home, index in zip(homes, indexes)])
            if found is not None and not is_covered(found, given[shape.table]):
                pattern = pattern_from(schema.positions(shape.table), found)
                return (shape.handler.name, shape.table, shape.levels, indexes, pattern)
    return None


def _marks_in(patterns):
    return [marks_of(pattern) for pattern in patterns]


def _indexes_of(marks_list):
    """Returns the indexes of the marks that a row can have; in others two constants would be joined."""
    return [index for index, marks in enumerate(marks_list) if marks is not None]


def _read_lines(system, lines):
    """Returns the lines of what is passed as a derivation; raises BadDerivation for the first wrong one."""
    if len(lines) == 0:
        raise BadDerivation(0)
    read = []
    for at, line in enumerate(lines):
        found = _read_line(system, line, read)
        if found is None:
            raise BadDerivation(at)
        read.append(found)
    return read


def _read_line(system, line, earlier):
    """Returns the line of something of any kind, None if it is not as in point 43."""
    if not isinstance(line, (tuple, list)) or len(line) != 4:
        return None
    name, table, case, sources = line
    if not _is_one_of(name, system.names()) or not _is_one_of(table, system.schema.tables()):
        return None
    levels = read_levels(system[name], table, case)
    if levels is None:
        return None
    shape = Shape(system[name], table, levels)
    if not _are_sources(sources, shape.setting.piece_tables, earlier):
        return None
    chosen = [earlier[source] for source in sources]
    marks = shape.result([one.marks for one in chosen])
    return None if marks is None else Line(shape, chosen, marks)


def _is_one_of(name, names):
    """Tells whether something of any kind is one of the names."""
    return isinstance(name, str) and name in names


def _are_sources(sources, homes, earlier):
    """Tells whether something of any kind has the index of an earlier line for each table."""
    if not isinstance(sources, (tuple, list)) or len(sources) != len(homes):
        return False
    return all([_is_source(source, home, earlier) for source, home in zip(sources, homes)])


def _is_source(source, home, earlier):
    if not isinstance(source, int) or isinstance(source, bool):
        return False
    return 0 <= source < len(earlier) and earlier[source].shape.table == home
