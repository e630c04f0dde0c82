"""Choices: one line for each chain of a setting."""

from ownersagree.joins import stay_apart, unite, unite_further
from ownersagree.lines import size_of
from ownersagree.marks import is_finer, marks_from


def products(lists):
    """Returns all tuples of one member of each list."""
    found = [()]
    for members in lists:
        found = [(*chosen, member) for chosen in found for member in members]
    return found


def least_choice(pairs, apart, lists):
    """Returns a tuple of lines, one of each list, in which pairs can be joined while those of apart are not all joined.

    If apart is None, nothing must stay apart. Among the choices that come into question it is one that takes the fewest
    calls; it is None if there is none.
    """
    least = None
    for chosen, joined in _possible_choices(pairs, apart or [], lists):
        if least is None or size_of(chosen) < size_of(least):
            if apart is None or stay_apart(joined, apart, [line.marks for line in chosen]):
                least = chosen
    return least


def _possible_choices(pairs, apart, lists):
    """Returns the choices in which pairs can be joined, each with what is joined then.

    Of several lines that make no difference to the pairs and to those of apart, one is taken.
    """
    seen = [spot for pair in pairs + apart for spot in pair]
    start = unite(_ready_pairs(pairs, -1), [])
    found = [] if start is None else [((), start)]
    for piece, lines in enumerate(lists):
        ready = _ready_pairs(pairs, piece)
        telling = _telling(lines, piece, seen)
        longer = [((*chosen, line), before) for chosen, before in found for line in telling]
        united = [(chosen, unite_further(before, ready, [line.marks for line in chosen])) for chosen, before in longer]
        found = [(chosen, joined) for chosen, joined in united if joined is not None]
    return found


def _ready_pairs(pairs, piece):
    """Returns the pairs of spots of which one is in a piece and none is in a later one; -1 stands for no piece."""
    return [pair for pair in pairs if piece == _last_piece(pair)]


def _last_piece(pair):
    last = -1
    for spot in pair:
        if not isinstance(spot, str) and spot[0] > last:
            last = spot[0]
    return last


def _telling(lines, piece, seen):
    """Returns those of the lines of a piece that can make a difference to the spots that are seen."""
    ats = [spot[1] for spot in seen if not isinstance(spot, str) and spot[0] == piece]
    least = {}
    for line in lines:
        marks = marks_from([line.marks[at] for at in ats])
        if marks not in least or line.size < least[marks].size:
            least[marks] = line
    return [line for marks, line in least.items()
            if not any([other != marks and is_finer(other, marks) for other in least])]
