"""Point 54, and the attributes and summaries of points 53, 57, 58, 60, 62 and 63."""

import unittest

from ownersagree.bases import Base
from ownersagree.comparing import compare, compare_questions
from ownersagree.errors import TooLong
from ownersagree.judging import judge_agreement, judge_handler, judge_question
from ownersagree.questions import Question
from ownersagree.surveys import survey
from ownersagree.verdicts import Asked, Fails, Holds, Parted, Touched, Verdict, Within
from tests.examples import BAD_GIVE, ladder, projects, system_of
from tests.helpers import AgreeTestCase

TASK = ("task", "owner", "project.owner")


def question(found, *lines):
    return Question.read(found.system.schema, "\n".join(["question q", *lines]))


class ClassTest(unittest.TestCase):
    def test_subclasses(self):
        for lower, upper in ((Holds, Verdict), (Fails, Verdict), (Within, Holds), (Asked, Fails), (Touched, Fails),
                             (Parted, Fails)):
            self.assertTrue(issubclass(lower, upper))
            self.assertIsNot(lower, upper)
        for one, other in ((Holds, Fails), (Asked, Touched), (Touched, Parted), (Parted, Asked)):
            self.assertFalse(issubclass(one, other) or issubclass(other, one))


class VerdictCase(AgreeTestCase):
    def check_holds(self, verdict, kind, summary):
        self.assertIs(type(verdict), kind)
        self.assertIs(bool(verdict), True)
        self.assertIsNone(verdict.depth)
        self.assertIsNone(verdict.size)
        self.assertEqual(verdict.summary(), summary)

    def check_fails(self, verdict, kind, depth, size, text=""):
        self.assertIs(type(verdict), kind)
        self.assertIs(bool(verdict), False)
        self.assertEqual((verdict.depth, verdict.size), (depth, size))
        self.assertEqual(verdict.summary(), f"fails at depth {depth} after {size} calls{text}")
        first = verdict.history()
        self.assertIsInstance(first, tuple)
        calls, address = first
        self.assertIsInstance(calls, list)
        self.assertIsInstance(address, tuple)
        self.assertEqual(len(calls), size)
        for call in calls:
            self.assertEqual([type(member) for member in call], [str, str, tuple, tuple])
        kept = list(calls)
        calls.clear()
        self.assertEqual(verdict.history(), (kept, address))
        return kept, address


class KindTest(VerdictCase):
    def setUp(self):
        self.good, self.bad = survey(projects()), survey(projects(BAD_GIVE))

    def test_holds(self):
        self.check_holds(judge_agreement(self.good, TASK), Holds, "holds")
        self.check_holds(compare(self.good, self.good), Holds, "holds")
        one = question(self.good, "find t in task")
        self.check_holds(compare_questions(self.good, one, one), Holds, "holds")

    def test_fails(self):
        self.check_fails(judge_agreement(self.bad, TASK), Fails, 3, 3)
        self.check_fails(judge_agreement(self.bad, ("project", "owner", "'x'")), Fails, 1, 1)

    def test_one_call_is_told_like_others(self):
        self.assertEqual(judge_agreement(self.good, ("project", "owner", "'x'")).summary(),
                         "fails at depth 1 after 1 calls")

    def test_within(self):
        verdict = judge_question(self.good, question(self.good, "find t in task", "where t.owner = me"))
        self.check_holds(verdict, Within, "holds: rests on agreements")
        self.assertEqual(verdict.rests, "agreements")
        verdict = judge_handler(self.good, "start")
        self.check_holds(verdict, Within, "holds: rests on nothing")
        self.assertEqual(verdict.rests, "nothing")

    def test_asked(self):
        verdict = judge_question(self.bad, question(self.bad, "find t in task", "where t.project.owner = me"))
        calls, address = self.check_fails(verdict, Asked, 3, 3, ": task")
        self.assertIsNone(verdict.side)
        asked = verdict.asked()
        self.assertEqual([type(member) for member in asked], [str, tuple, tuple])
        self.assertEqual(verdict.asked(), asked)
        self.check_history_and_asked(verdict, self.bad, question(self.bad, "find t in task",
                                                                 "where t.project.owner = me"))

    def check_history_and_asked(self, verdict, found, asked_question):
        """What is told first does not change what is told then: both speak of the same history."""
        asked = verdict.asked()
        calls, address = verdict.history()
        base = Base(found.system)
        base.run_all(calls)
        self.assertIn(address[1], base.ask(asked_question, *asked))

    def test_asked_with_a_side(self):
        one, two = question(self.bad, "find t in task"), question(self.bad, "find t in task", "where t.owner = me")
        self.check_fails(compare_questions(self.bad, one, two), Asked, 2, 2, ": task")
        self.assertEqual(compare_questions(self.bad, one, two).side, 0)
        self.assertEqual(compare_questions(self.bad, two, one).side, 1)

    def test_touched(self):
        found = survey(system_of("root t x\nowner t x", "handler make\nvalue u\nnew n in t with u",
                                 "handler change\nrow r in t\nset r.x = me"))
        verdict = judge_handler(found, "make")
        self.check_fails(verdict, Touched, 0, 1, ": new t")
        self.assertEqual(verdict.way, (0, "new", "t"))
        verdict = judge_handler(found, "change")
        self.check_fails(verdict, Touched, 1, 2, ": set t")
        self.assertEqual(verdict.way, (0, "set", "t"))

    def test_parted(self):
        verdict = compare(self.good, self.bad)
        self.check_fails(verdict, Parted, 3, 3, ": side 1")
        self.assertEqual((verdict.side, verdict.table, str(verdict.pattern)), (1, "task", "owner; project.owner"))
        self.check_fails(compare(self.bad, self.good), Parted, 3, 3, ": side 0")

    def test_attributes_are_set_on_each_object(self):
        asked = judge_question(self.bad, question(self.bad, "find t in task"))
        for verdict, names in ((judge_agreement(self.good, TASK), []), (judge_agreement(self.bad, TASK), []),
                               (judge_handler(self.good, "start"), ["rests"]), (asked, ["side"]),
                               (compare(self.good, self.bad), ["side", "table", "pattern"])):
            for name in ["depth", "size"] + names:
                self.assertIn(name, vars(verdict))


class TooLongTest(VerdictCase):
    def verdicts(self, steps):
        found = survey(ladder(steps))
        one = question(found, "find r in t", "where r.flag = 'z'")
        two = question(found, "find r in t", "where r.flag = 'z'", "where r.kind = 'q'")
        return found, [
            (judge_agreement(found, ("t", "kind", "flag")), Fails, ""),
            (judge_question(found, one), Asked, ": t"),
            (compare_questions(found, one, two), Asked, ": t"),
            (judge_handler(found, f"go{steps - 1}"), Touched, ": set t"),
        ]

    def test_exactly_100(self):
        found, verdicts = self.verdicts(5)
        for verdict, kind, text in verdicts[:3]:
            calls, address = self.check_fails(verdict, kind, 12, 100, text)
            base = Base(found.system)
            base.run_all(calls)
            self.assertEqual(base.depth_of(*address), 12)
            self.assertEqual(base[address]["flag"], "z")
        self.check_fails(verdicts[3][0], Touched, 11, 100, ": set t")
        self.assertEqual(verdicts[1][0].asked()[1:], ((), ()))

    def test_beyond(self):
        for steps in (6, 8):
            _, verdicts = self.verdicts(steps)
            for verdict, kind, text in verdicts:
                self.assertIs(type(verdict), kind)
                self.assertEqual(verdict.size, 95 + steps)
                depth = verdict.depth
                self.assertEqual(verdict.summary(), f"fails at depth {depth} after {95 + steps} calls{text}")
                self.check_error(TooLong(95 + steps), verdict.history)
            for verdict, _, _ in verdicts[1:3]:
                self.check_error(TooLong(95 + steps), verdict.asked)

    def test_parted(self):
        first, second = survey(ladder(5)), survey(ladder(6))
        verdict = compare(first, second)
        self.assertIs(type(verdict), Parted)
        self.assertEqual((verdict.side, verdict.size), (0, 100))
        self.assertEqual(len(verdict.history()[0]), 100)
        verdict = compare(survey(ladder(7)), second)
        self.assertEqual((verdict.side, verdict.size), (0, 102))
        self.check_error(TooLong(102), verdict.history)


if __name__ == "__main__":
    unittest.main()
