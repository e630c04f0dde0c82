"""Layers: the finest patterns that rows can have, depth by depth (points 37 and 40)."""

from ownersagree.cases import cases
from ownersagree.choices import products
from ownersagree.errors import TooManyPatterns
from ownersagree.lines import Line, size_of
from ownersagree.marks import count_free, is_covered
from ownersagree.shapes import Shape

MOST_PATTERNS = 40


def shapes_of(system):
    """Returns a shape for every handler, table and case."""
    handlers = [system[name] for name in system.names()]
    return [Shape(handler, table, case) for handler in handlers for table in system.schema.tables()
            for case in cases(handler, table)]


def layers_of(system):
    """Returns the layers from layer 0 to the last one, each as a dict of lists of lines by tables.

    The depth of a line is the number of the first layer that has it.
    """
    shapes = shapes_of(system)
    known = {table: {} for table in system.schema.tables()}
    layers = [{table: [] for table in known}]
    while True:
        made = _made_from(layers[-1], len(layers) - 1, shapes, known)
        layer = {table: _finest(layers[-1][table] + list(made[table].values())) for table in known}
        for table, lines in layer.items():
            if len(lines) > MOST_PATTERNS:
                raise TooManyPatterns(table)
        if not any([line.depth == len(layers) for lines in layer.values() for line in lines]):
            return layers
        for table, found in made.items():
            for marks in found:
                known[table][marks] = True
        layers.append(layer)


def _made_from(layer, number, shapes, known):
    """Returns the results of all steps from a layer that no earlier layer has given, as dicts of lines by marks."""
    made = {table: {} for table in known}
    for shape in shapes:
        found = made[shape.table]
        for sources in _fresh_choices(shape.setting.piece_tables, layer, number):
            marks = shape.result([line.marks for line in sources])
            if marks is not None and marks not in known[shape.table]:
                if marks not in found or size_of(sources) < found[marks].size - 1:
                    found[marks] = Line(shape, sources, marks)
    return made


def _fresh_choices(homes, layer, number):
    """Returns the choices of lines of a layer, one for each table, that the layer before did not have."""
    if not homes:
        return [()] if number == 0 else []
    found = []
    for at in range(len(homes)):
        earlier = [[line for line in layer[home] if line.depth < number] for home in homes[:at]]
        fresh = [line for line in layer[homes[at]] if line.depth == number]
        found.extend(products(earlier + [fresh] + [layer[home] for home in homes[at + 1:]]))
    return found


def _finest(lines):
    """Returns the lines for which no other one is finer; if that are too many, one more than are allowed."""
    by_count = {}
    for line in lines:
        by_count.setdefault(count_free(line.marks), []).append(line)
    found = []
    # Marks that are finer than others have more free blocks, so that a line that is found stays one of the finest.
    for count in range(max([int(count) for count in by_count], default=0), -1, -1):
        for line in by_count.get(count, []):
            if len(found) <= MOST_PATTERNS and not is_covered(line.marks, [other.marks for other in found]):
                found.append(line)
    return found
