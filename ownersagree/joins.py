"""Joins: which of the things that chains, callers and texts tell are equal (point 35).

A spot is what a term reads: a pair of the index of a chain and the index of a position there, or, if the term reads no
row, the term itself. In a choice of marks, one for each chain, every spot has a label, and equal labels are joined.
"""

from ownersagree.marks import is_fixed, marks_from


def label_of(spot, choice):
    """Returns the label of a spot, as the marks of its chain tell it."""
    if isinstance(spot, str):
        return spot
    piece, at = spot
    mark = choice[piece][at]
    return mark if is_fixed(mark) else (piece, mark)


def root_of(joined, label):
    """Returns the label that stands for all that are joined with a label."""
    root = label
    while root in joined:
        root = joined[root]
    return root


def unite(pairs, choice):
    """Joins the two spots of each pair, in a choice of marks.

    Returns a dict that leads from labels to those that they are joined with, or None if two constants would be joined.
    """
    return unite_further({}, pairs, choice)


def unite_further(before, pairs, choice):
    """Does the same as unite, where some labels are joined before; their dict stays as it is."""
    joined = {label: before[label] for label in before}
    for left, right in pairs:
        first = root_of(joined, label_of(left, choice))
        second = root_of(joined, label_of(right, choice))
        if is_fixed(first) and is_fixed(second) and first != second:
            return None
        if is_fixed(first):
            first, second = second, first
        if first != second:
            joined[first] = second
    return joined


def stay_apart(joined, pairs, choice):
    """Tells whether some pair of spots is not joined."""
    return any([root_of(joined, label_of(left, choice)) != root_of(joined, label_of(right, choice))
                for left, right in pairs])


def with_joined(marks, pairs):
    """Returns the marks of one chain after the spots of pairs are joined, None if two constants would be joined."""
    joined = unite(pairs, [marks])
    if joined is None:
        return None
    return marks_from([root_of(joined, label_of((0, at), [marks])) for at in range(len(marks))])


def position_at(tables, height, column):
    """Returns the position of a column of a row that stands some steps above the lowest row of a chain of tables."""
    return ".".join(tables[1:height + 1] + [column])


def follow_pairs(schema, table):
    """Returns the pairs of spots of the columns that follow, on the chain of a table, and of what they follow."""
    tables = schema.chain_of(table)
    places = schema.positions(table)
    pairs = []
    for height, home in enumerate(tables):
        for column, source in schema.follows(home):
            low = places.index(position_at(tables, height, column))
            high = places.index(position_at(tables, height + 1, source))
            pairs.append(((0, low), (0, high)))
    return pairs
