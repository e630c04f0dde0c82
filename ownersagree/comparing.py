"""Comparing: two systems, and two questions (points 62 and 63)."""

from ownersagree.doubts import Doubt, first_failure
from ownersagree.errors import NotComparable, OtherSchema
from ownersagree.marks import marks_of
from ownersagree.scripts import Script
from ownersagree.settings import Setting, question_setting
from ownersagree.verdicts import Asked, Holds, Parted


def compare(first, second):
    """Returns the verdict whether the rows can have the same patterns after the histories of two systems."""
    if first <= second and second <= first:
        return Holds()
    side, table, pattern = _patterns_apart(first, second)[0]
    survey = second if side else first
    schema = survey.system.schema
    depth = survey.depth_of(table, pattern)
    line = survey.line_for(table, marks_of(pattern), depth)
    doubt = Doubt(None, Setting(schema, [table], {}), [], [], (0, 0))
    script = Script(doubt, [line], first.system.constants() + second.system.constants())
    return Parted(depth, script, side, table, pattern)


def compare_questions(survey, first, second):
    """Returns the verdict whether two questions find the same rows after every history, for all arguments."""
    text = survey.system.schema.text
    if first.schema.text != text or second.schema.text != text:
        raise OtherSchema()
    if _frame_of(first) != _frame_of(second):
        raise NotComparable()
    setting = question_setting(first)
    conditions = [setting.pairs_of(question.conditions()) for question in (first, second)]
    for side, question in ((0, first), (1, second)):
        doubt = Doubt(question, setting, conditions[side], conditions[1 - side], (0, 0))
        found = first_failure(survey, [doubt])
        if found is not None:
            depth, _, lines = found
            return Asked(depth, Script(doubt, lines, survey.system.constants()), first.found()[1], side)
    return Holds()


def _patterns_apart(first, second):
    """Returns the side, the table and the pattern for all finest patterns that the other side does not have."""
    return [(side, table, pattern) for side, survey, other in ((0, first, second), (1, second, first))
            for table in survey.system.schema.tables() for pattern in survey.patterns(table)
            if other.depth_of(table, pattern) is None]


def _frame_of(question):
    """Returns the parameter lines and the `find` line of a question."""
    return [line for line in question.text.split("\n") if line.split(" ")[0] not in ("question", "where")]
