"""Doubts: what may go wrong with some rows, and at which depth it first does (points 53, 57, 60 and 63)."""

from ownersagree.agreements import held
from ownersagree.choices import least_choice
from ownersagree.joins import stay_apart, unite
from ownersagree.lines import size_of
from ownersagree.marks import is_fixed


class Doubt:
    """Chains of rows that are as they should not be if some spots are joined and others are not.

    subject is the handler that is called or the question that is asked with these rows, or None. The spots of pairs are
    joined by then, and those of apart must not all be joined. shown is the row in question: where it stands in the
    setting, or the name of a new row.
    """

    def __init__(self, subject, setting, pairs, apart, shown):
        self.subject = subject
        self.setting = setting
        self.pairs = list(pairs)
        self.apart = list(apart)
        self.shown = shown

    def fixed(self):
        """Returns the constants that the spots name."""
        return [spot for pair in self.pairs + self.apart for spot in pair if is_fixed(spot)]

    def least_lines(self, survey, depth):
        """Returns lines of a layer for which it goes wrong, or None; of several, those with the fewest calls."""
        lists = [survey.lines(table, depth) for table in self.setting.piece_tables]
        return least_choice(self.pairs, self.apart, lists)

    def comes_up(self, survey):
        """Tells whether there can be such rows at all, right or wrong."""
        lists = [survey.lines(table, survey.rounds) for table in self.setting.piece_tables]
        return least_choice(self.pairs, None, lists) is not None

    def fails_within(self, agreements):
        """Tells whether it goes wrong for rows of which no more is known than some agreements."""
        choice = [agreements.marks_for(table) for table in self.setting.piece_tables]
        # Where no row can exist, nothing goes wrong either.
        joined = None if None in choice else unite(self.pairs, choice)
        return joined is not None and stay_apart(joined, self.apart, choice)


def first_failure(survey, doubts):
    """Returns the least depth at which one of the doubts goes wrong, this doubt, and its lines; None if none does."""
    # The last layer comes first: where nothing goes wrong there, nothing ever does.
    if _least_failure(survey, doubts, survey.rounds) is None:
        return None
    depth = 0
    found = _least_failure(survey, doubts, depth)
    while found is None:
        depth += 1
        found = _least_failure(survey, doubts, depth)
    return (depth, found[0], found[1])


def _least_failure(survey, doubts, depth):
    """Returns a doubt that goes wrong in a layer, and its lines, or None; of several, one with the fewest calls."""
    least = None
    for doubt in doubts:
        lines = doubt.least_lines(survey, depth)
        if lines is not None and (least is None or size_of(lines) < size_of(least[1])):
            least = (doubt, lines)
    return least


def rest_of(survey, doubts):
    """Returns the word of point 58 for doubts of which none goes wrong."""
    if not any([doubt.comes_up(survey) for doubt in doubts]):
        return "nothing"
    agreements = held(survey)
    if not any([doubt.fails_within(agreements) for doubt in doubts]):
        return "agreements"
    return "patterns"
