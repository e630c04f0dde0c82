"""Point 61: guards and conditions that may be left out."""

import collections
import unittest

from ownersagree.bases import Base
from ownersagree.errors import AgreeError, OtherSchema, Refused, UnknownName
from ownersagree.handlers import Handler
from ownersagree.judging import idle_conditions, idle_needs
from ownersagree.questions import Question
from ownersagree.schemas import Schema
from ownersagree.surveys import survey
from ownersagree.systems import System
from tests.examples import BAD_GIVE, GIVE, PLAN, PROJECTS, START, projects, system_of
from tests.helpers import AgreeTestCase
from tests.plain_verdicts import PlainHandler, PlainQuestion
from tests.random_derivations import play_randomly, random_call
from tests.random_systems import random_needs, random_owned_system, random_question
from tests.test_surveys import random_system


class NeedsTest(AgreeTestCase):
    def check(self, needs, wanted, *parameters, system=(PROJECTS, START, PLAN, GIVE)):
        text = "\n".join(["handler h", *parameters] + [f"need {need}" for need in needs])
        found = survey(system_of(*system, text))
        self.assertEqual(idle_needs(found, "h"), wanted)

    def test_the_examples(self):
        for found in (survey(projects()), survey(projects(BAD_GIVE))):
            self.assertEqual([idle_needs(found, name) for name in ("start", "plan", "give")], [[], [], []])

    def test_guards_that_stand_twice(self):
        self.check(["p.owner = me", "p.owner = me"], [0, 1], "row p in project")
        self.check(["p.owner = me", "me = p.owner", "p.owner = u"], [0, 1], "row p in project", "value u")
        self.check(["me = u", "p.owner = 'a'", "u = me"], [0, 2], "row p in project", "value u")

    def test_guards_that_follow_from_others(self):
        self.check(["p.owner = me", "me = u", "p.owner = u"], [0, 1, 2], "row p in project", "value u")
        self.check(["p.owner = me", "me = u"], [], "row p in project", "value u")
        self.check(["p.owner = 'a'", "me = 'a'", "p.owner = me"], [0, 1, 2], "row p in project")

    def test_guards_that_follow_from_what_all_rows_have(self):
        good, bad = (PROJECTS, START, PLAN, GIVE), (PROJECTS, START, PLAN, BAD_GIVE)
        self.check(["t.owner = t.project.owner"], [0], "row t in task", system=good)
        self.check(["t.owner = t.project.owner"], [], "row t in task", system=bad)
        self.check(["t.owner = me", "t.project.owner = me"], [0, 1], "row t in task", system=good)
        self.check(["t.owner = me", "t.project.owner = me"], [], "row t in task", system=bad)

    def test_guards_of_the_same_member(self):
        self.check(["me = me", "'a' = 'a'", "p.owner = p.owner"], [0, 1, 2], "row p in project")

    def test_guards_that_never_hold(self):
        self.check(["'a' = 'b'"], [])
        self.check(["'a' = 'b'", "me = 'c'"], [1])
        self.check(["'a' = 'b'", "'a' = 'c'"], [0, 1])
        self.check(["me = 'a'", "me = 'b'"], [])
        self.check(["me = 'a'", "me = 'b'", "me = u"], [2], "value u")

    def test_rows_that_can_not_exist(self):
        self.check(["t.owner = me", "'a' = 'b'"], [0, 1], "row t in task", system=(PROJECTS, START))

    def test_patterns_that_allow_no_call(self):
        system = ("root t x y", "handler a\nnew n in t with 'a' me", "handler b\nnew n in t with 'b' 'k'")
        self.check(["r.x = 'b'", "r.y = 'k'"], [1], "row r in t", system=system)
        self.check(["r.x = 'c'", "r.y = me"], [1], "row r in t", system=system)

    def test_the_same_row_for_two_parameters(self):
        self.check(["p.owner = q.owner"], [], "row p in project", "row q in project")

    def test_no_guards(self):
        self.check([], [])

    def test_unknown_names(self):
        found = survey(projects())
        for name in ("nope", "", "task"):
            self.check_error(UnknownName(0, name), idle_needs, found, name)

    def test_a_new_list(self):
        found = survey(system_of(PROJECTS, "handler h\nneed me = me"))
        idle_needs(found, "h").clear()
        self.assertEqual(idle_needs(found, "h"), [0])


class ConditionsTest(AgreeTestCase):
    def check(self, lines, wanted, found=None):
        found = found or survey(projects())
        asked = Question.read(found.system.schema, "\n".join(["question q", *lines]))
        self.assertEqual(idle_conditions(found, asked), wanted)

    def test_conditions(self):
        bad = survey(projects(BAD_GIVE))
        self.check(["find t in task", "where t.owner = me", "where t.project.owner = me"], [0, 1])
        self.check(["find t in task", "where t.owner = me", "where t.project.owner = me"], [], bad)
        self.check(["find t in task", "where t.owner = me", "where t.owner = me", "where me = 'a'"], [0, 1])
        self.check(["find t in task"], [])

    def test_below(self):
        self.check(["row p in project", "find t in task below p", "where p.owner = t.project.owner"], [0])
        self.check(["row p in project", "find t in task below p", "where p.owner = t.owner"], [0])
        self.check(["row p in project", "find t in task", "where p.owner = t.project.owner"], [])
        self.check(["row p in project", "find t in task below p", "where p.owner = t.owner"], [],
                   survey(projects(BAD_GIVE)))

    def test_several_parameters(self):
        self.check(["row s in task", "row p in project", "value u", "find t in task below p", "where s.owner = u",
                    "where p.owner = u", "where s.project.owner = t.owner"], [0, 1, 2])
        self.check(["row s in task", "row p in project", "value u", "find t in task below p", "where s.owner = u",
                    "where p.owner = me", "where s.project.owner = t.owner"], [])

    def test_constants_of_its_own(self):
        self.check(["find t in task", "where t.owner = 'u1'", "where t.project.owner = 'u1'"], [0, 1])
        self.check(["find t in task", "where t.owner = 'u1'", "where me = 'u2'"], [])

    def test_other_schemas(self):
        other = Question.read(Schema.read(PROJECTS + "\nowner project owner"), "question q\nfind t in task")
        self.check_error(OtherSchema(), idle_conditions, survey(projects()), other)


class RandomTest(AgreeTestCase):
    def test_against_the_model(self):
        counts = collections.Counter()
        for seed in range(80):
            chance, system = random_owned_system(seed)
            schema, found = system.schema, survey(system)
            for name in system.names():
                wanted = PlainHandler(schema.text, system[name].text).idle(found)
                self.assertEqual(idle_needs(found, name), wanted)
                counts["idle need"] += len(wanted)
                counts["need"] += len(system[name].needs()) - len(wanted)
            for _ in range(6):
                text = random_needs(chance, schema, random_question(chance, schema), chance.choice([1, 2, 3]))
                wanted = PlainQuestion(schema.text, text).idle(found)
                asked = Question.read(schema, text)
                self.assertEqual(idle_conditions(found, asked), wanted)
                counts["idle condition"] += len(wanted)
                counts["condition"] += len(asked.conditions()) - len(wanted)
        self.assertGreater(min(counts.values()), 50, counts)
        self.assertEqual(len(counts), 4)

    def without(self, system, name, index):
        """The system without a guard of a handler."""
        lines = system[name].text.split("\n")
        at = [number for number, line in enumerate(lines) if line.startswith("need ")][index]
        text = "\n".join(lines[:at] + lines[at + 1:])
        return System(system.schema, [Handler.read(system.schema, text) if other == name else system[other]
                                      for other in system.names()])

    def test_a_guard_that_may_be_left_out_makes_no_difference(self):
        counts = collections.Counter()
        for seed in range(120):
            chance, system = random_system(seed, extra=5)
            found = survey(system)
            base = Base(system)
            calls = play_randomly(chance, base, ["a", "b"], 60)
            for name in system.names():
                for index in range(len(system[name].needs())):
                    other = Base(self.without(system, name, index))
                    other.run_all(calls)
                    idle = index in idle_needs(found, name)
                    self.compare(chance, base, other, name, idle, counts)
        self.assertGreater(counts[True], 30, counts)
        self.assertGreater(counts["refused"], 20, counts)
        self.assertGreater(counts["needed"], 20, counts)

    def compare(self, chance, base, other, name, idle, counts):
        counts[idle] += 1
        for _ in range(30):
            call = random_call(chance, base, ["a", "b"])
            if call is None or call[0] != name:
                continue
            allowed = self.allows(base, call)
            if idle:
                self.assertEqual(self.allows(other, call), allowed)
                counts["refused"] += not allowed
            elif self.allows(other, call) != allowed:
                counts["needed"] += 1

    def allows(self, base, call):
        try:
            base.touched(call)
        except Refused:
            return False
        except AgreeError:
            self.fail("a call that should be allowed or refused")
        return True


if __name__ == "__main__":
    unittest.main()
