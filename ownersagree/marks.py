"""Marks: patterns in a form that is quick to compare.

The marks of a pattern are a tuple with a mark for each position, in order: the constant that is joined with the
position, or else the index of the first position of its block.
"""

from ownersagree.errors import OtherPlaces
from ownersagree.patterns import Pattern


def is_fixed(label):
    """Tells whether a label is a constant; all other strings, such as `me`, have no quotes."""
    return isinstance(label, str) and label.startswith("'")


def marks_from(labels):
    """Returns the marks of positions with labels: those with equal labels are joined."""
    first = {}
    marks = []
    for at, label in enumerate(labels):
        marks.append(label if is_fixed(label) else first.setdefault(label, at))
    return tuple(marks)


def marks_of(pattern):
    """Returns the marks of a pattern."""
    labels = {}
    for block in pattern.blocks():
        for member in block:
            # A constant is the last member of its block.
            labels[member] = block[-1]
    return marks_from([labels[place] for place in pattern.places])


def marks_at(schema, table, pattern):
    """Returns the marks of a pattern; raises OtherPlaces if it has not the positions of the table, in order."""
    if list(pattern.places) != schema.positions(table):
        raise OtherPlaces()
    return marks_of(pattern)


def pattern_from(places, marks):
    """Returns the pattern of positions with marks."""
    blocks = {}
    for place, mark in zip(places, marks):
        blocks.setdefault(mark, []).append(place)
    return Pattern(places, [block + [mark] if is_fixed(mark) else block for mark, block in blocks.items()])


def is_finer(first, second):
    """Tells whether the first marks join nothing that the second ones do not join."""
    for at, mark in enumerate(first):
        if second[at] != (mark if is_fixed(mark) else second[mark]):
            return False
    return True


def is_covered(marks, others):
    """Tells whether some marks of a list are finer than the marks, or equal to them."""
    return any([is_finer(other, marks) for other in others])


def shared(first, second):
    """Returns the marks that join exactly what both join."""
    return marks_from([one if one == other else (one, other) for one, other in zip(first, second)])


def count_free(marks):
    """Returns the number of the blocks without a constant; it is greater for marks that are finer."""
    return len([at for at, mark in enumerate(marks) if mark == at])
