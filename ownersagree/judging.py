"""Judging: agreements, questions and handlers after every history (points 53 to 61)."""

from ownersagree.checks import check_agreements
from ownersagree.choices import least_choice
from ownersagree.doubts import Doubt, first_failure, rest_of
from ownersagree.errors import OtherSchema
from ownersagree.marks import is_fixed
from ownersagree.scripts import Script
from ownersagree.settings import Setting, handler_setting, question_setting
from ownersagree.verdicts import Asked, Fails, Holds, Touched, Within
from ownersagree.ways import ways_of


def judge_agreement(survey, agreement):
    """Returns the verdict whether an agreement holds for every row after every history."""
    schema = survey.system.schema
    check_agreements(schema, [agreement])
    table, left, right = agreement
    setting = Setting(schema, [table], {})
    spots = [member if is_fixed(member) else setting.spot_at((0, 0), member) for member in (left, right)]
    found = first_failure(survey, [Doubt(None, setting, [], [(spots[0], spots[1])], (0, 0))])
    if found is None:
        return Holds()
    depth, doubt, lines = found
    return Fails(depth, Script(doubt, lines, survey.system.constants()))


def judge_question(survey, question):
    """Returns the verdict whether a question only finds rows of the caller or of nobody."""
    _check_schema(survey, question)
    table = question.found()[1]
    doubts = _owner_doubts(question)
    found = first_failure(survey, doubts)
    if found is None:
        return Within(rest_of(survey, doubts))
    depth, doubt, lines = found
    return Asked(depth, Script(doubt, lines, survey.system.constants()), table, None)


def judge_handler(survey, name):
    """Returns the verdict whether a handler only touches rows of the caller or of nobody."""
    ways = ways_of(survey.system[name])
    for way, doubts in ways:
        found = first_failure(survey, doubts)
        if found is not None:
            depth, doubt, lines = found
            return Touched(depth, Script(doubt, lines, survey.system.constants()), way)
    return Within(rest_of(survey, [doubt for _, doubts in ways for doubt in doubts]))


def idle_needs(survey, name):
    """Returns the indexes of the guards of a handler each of which may be left out."""
    handler = survey.system[name]
    setting = handler_setting(handler)
    return _idle_pairs(survey, setting, setting.pairs_of(handler.needs()))


def idle_conditions(survey, question):
    """Returns the indexes of the conditions of a question each of which may be left out."""
    _check_schema(survey, question)
    setting = question_setting(question)
    return _idle_pairs(survey, setting, setting.pairs_of(question.conditions()))


def _check_schema(survey, question):
    if question.schema.text != survey.system.schema.text:
        raise OtherSchema()


def _owner_doubts(question):
    """Returns the doubts whether the row that a question finds belongs to the caller."""
    owner = question.schema.owner_of(question.found()[1])
    if owner is None:
        return []
    setting = question_setting(question)
    apart = [(setting.spot_at((0, 0), owner), "me")]
    return [Doubt(question, setting, setting.pairs_of(question.conditions()), apart, (0, 0))]


def _idle_pairs(survey, setting, pairs):
    """Returns the indexes of the pairs each of which is always joined where all others are."""
    lists = [survey.lines(table, survey.rounds) for table in setting.piece_tables]
    return [at for at, pair in enumerate(pairs)
            if least_choice(pairs[:at] + pairs[at + 1:], [pair], lists) is None]
