"""Choices: one line for each chain of a setting."""

from ownersagree.joins import label_of, root_of, unite
from ownersagree.lines import size_of
from ownersagree.marks import is_finer, marks_from


def products(lists):
    """Returns all tuples of one member of each list."""
    found = [()]
    for members in lists:
        found = [(*chosen, member) for chosen in found for member in members]
    return found


def is_possible(pairs, apart, choice):
    """Tells whether the spots of pairs can be joined in a choice of marks while those of apart are not all joined.

    If apart is None, nothing must stay apart.
    """
    joined = unite(pairs, choice)
    if joined is None:
        return False
    if apart is None:
        return True
    return any([root_of(joined, label_of(left, choice)) != root_of(joined, label_of(right, choice))
                for left, right in apart])


def least_choice(pairs, apart, lists):
    """Returns a tuple of lines, one of each list, whose marks make a possible choice; None if there is none.

    Among those that come into question it is one that takes the fewest calls.
    """
    least = None
    seen = [spot for pair in pairs + (apart or []) for spot in pair]
    for chosen in products([_telling(lines, piece, seen) for piece, lines in enumerate(lists)]):
        if least is None or size_of(chosen) < size_of(least):
            if is_possible(pairs, apart, [line.marks for line in chosen]):
                least = chosen
    return least


def _telling(lines, piece, seen):
    """Returns those of the lines of a piece that can make a difference to the spots that are seen."""
    ats = [spot[1] for spot in seen if not isinstance(spot, str) and spot[0] == piece]
    least = {}
    for line in lines:
        marks = marks_from([line.marks[at] for at in ats])
        if marks not in least or line.size < least[marks].size:
            least[marks] = line
    return [line for marks, line in least.items()
            if not any([other != marks and is_finer(other, marks) for other in least])]
