"""Point 63: two questions."""

import collections
import unittest

from ownersagree.bases import Base
from ownersagree.comparing import compare_questions
from ownersagree.errors import NotComparable, OtherSchema
from ownersagree.questions import Question
from ownersagree.schemas import Schema
from ownersagree.surveys import survey
from ownersagree.verdicts import Asked, Holds
from tests.examples import BAD_GIVE, PROJECTS, START, boxes, projects, system_of
from tests.helpers import AgreeTestCase
from tests.plain_verdicts import PlainQuestion
from tests.random_derivations import play_randomly
from tests.random_systems import random_needs, random_owned_system, random_question


class QuestionsCase(AgreeTestCase):
    def question(self, found, *lines):
        return Question.read(found.system.schema, "\n".join(["question q", *lines]))

    def check(self, found, first, second):
        """Checks a verdict by its history, and returns its side and depth, or None."""
        verdict = compare_questions(found, first, second)
        if verdict:
            self.assertIs(type(verdict), Holds)
            self.assertEqual(verdict.summary(), "holds")
            return None
        self.assertIs(type(verdict), Asked)
        self.assertIn(verdict.side, (0, 1))
        calls, address = verdict.history()
        base = Base(found.system)
        base.run_all(calls)
        self.assertEqual((len(calls), address[0]), (verdict.size, first.found()[1]))
        me, rows, values = verdict.asked()
        one, other = [base.ask(asked, me, rows, values) for asked in (first, second)]
        self.assertEqual((address[1] in one, address[1] in other), (verdict.side == 0, verdict.side == 1))
        depths = [base.depth_of(home, row) for (_, home), row in zip(first.row_parameters(), rows)]
        self.assertEqual(max(depths + [base.depth_of(*address)]), verdict.depth)
        self.assertEqual(verdict.summary(),
                         f"fails at depth {verdict.depth} after {verdict.size} calls: {first.found()[1]}")
        return verdict.side, verdict.depth

    def both(self, found, frame, first, second, wanted):
        """Checks two questions with the same frame both ways; wanted has what each way tells."""
        one = self.question(found, *frame, *[f"where {line}" for line in first])
        two = self.question(found, *frame, *[f"where {line}" for line in second])
        self.assertEqual((self.check(found, one, two), self.check(found, two, one)), wanted)


class QuestionsTest(QuestionsCase):
    def test_the_same_question(self):
        found = survey(projects(BAD_GIVE))
        frame = ["row p in project", "value u", "find t in task below p"]
        self.both(found, frame, ["t.owner = me", "p.owner = u"], ["p.owner = u", "t.owner = me"], (None, None))
        self.both(found, frame, ["t.owner = me", "u = me"], ["me = u", "u = t.owner"], (None, None))
        self.both(found, frame, [], [], (None, None))
        self.both(found, frame, ["p.owner = u"], ["t.project.owner = u"], (None, None))

    def test_other_conditions(self):
        frame = ["find t in task"]
        good, bad = survey(projects()), survey(projects(BAD_GIVE))
        self.both(good, frame, ["t.owner = me"], ["t.project.owner = me"], (None, None))
        self.both(bad, frame, ["t.owner = me"], ["t.project.owner = me"], ((0, 3), (0, 3)))
        self.both(bad, frame, ["t.owner = me"], [], ((1, 2), (0, 2)))
        self.both(bad, frame, ["t.owner = me"], ["t.owner = me", "t.project.owner = me"], ((0, 3), (1, 3)))

    def test_side_0_if_both_are_possible(self):
        # The second question finds other rows at a lower depth.
        found = survey(system_of("root t x y", "handler a\nnew n in t with 'a' 'c'",
                                 "handler b\nrow r in t\nset r.x = 'b'"))
        self.both(found, ["find r in t"], ["r.x = 'b'"], ["r.x = 'a'"], ((0, 2), (0, 1)))
        self.both(found, ["find r in t"], ["r.x = 'c'"], ["r.x = 'a'"], ((1, 1), (0, 1)))
        self.both(found, ["find r in t"], ["r.x = 'c'"], ["r.y = 'a'"], (None, None))

    def test_the_least_depth_of_all_rows(self):
        found = survey(projects(BAD_GIVE))
        frame = ["row s in task", "find p in project"]
        self.both(found, frame, ["s.owner = me"], ["s.project.owner = me"], ((0, 3), (0, 3)))
        self.both(found, frame, ["p.owner = me"], ["s.owner = me"], ((0, 2), (0, 2)))
        self.both(found, ["find p in project"], ["p.owner = me"], [], ((1, 1), (0, 1)))

    def test_below(self):
        found = survey(projects(BAD_GIVE))
        frame = ["row p in project", "find t in task below p"]
        self.both(found, frame, ["p.owner = me"], ["t.project.owner = me"], (None, None))
        self.both(found, frame, ["p.owner = me"], ["t.owner = me"], ((0, 3), (0, 3)))
        self.both(found, ["row p in project", "find t in task"], ["p.owner = me"], ["t.project.owner = me"],
                  ((0, 2), (0, 2)))

    def test_constants_of_their_own(self):
        found = survey(projects(BAD_GIVE))
        for constant in ("'u1'", "'u2'", "'u3'", "'zz'"):
            self.both(found, ["find t in task"], [f"t.owner = {constant}"], [f"t.project.owner = {constant}"],
                      ((0, 3), (0, 3)))
            self.both(found, ["find t in task"], [], [f"t.owner = {constant}"], ((0, 2), (1, 2)))
            self.both(found, ["find t in task"], [f"t.owner = {constant}"], ["t.owner = 'q'"], ((0, 2), (0, 2)))
        self.both(found, ["find t in task"], ["t.owner = 'a'", "t.owner = 'b'"], ["'a' = 'b'"], (None, None))

    def test_rows_that_can_not_exist(self):
        found = survey(system_of(PROJECTS, START))
        self.both(found, ["find t in task"], ["t.owner = me"], [], (None, None))

    def test_found_tables_without_an_owner(self):
        found = survey(boxes())
        self.both(found, ["find b in box"], ["b.a = b.b"], ["b.b = b.c"], ((0, 1), (0, 1)))
        self.both(found, ["find n in link"], ["n.x = me"], ["n.y = me"], (None, None))

    def test_not_comparable(self):
        found = survey(projects())
        base = ["row p in project", "value u", "find t in task below p"]
        for other in (["value u", "row p in project", "find t in task below p"],
                      ["row q in project", "value u", "find t in task below q"],
                      ["row p in project", "value v", "find t in task below p"],
                      ["row p in project", "find t in task below p"],
                      ["row p in project", "value u", "value v", "find t in task below p"],
                      ["row p in project", "value u", "find t in task"],
                      ["row p in project", "value u", "find s in task below p"],
                      ["row p in project", "value u", "find t in project"]):
            first, second = self.question(found, *base), self.question(found, *other)
            self.check_error(NotComparable(), compare_questions, found, first, second)
            self.check_error(NotComparable(), compare_questions, found, second, first)
        two = self.question(found, "row p in project", "row q in project", "find t in task below p")
        three = self.question(found, "row p in project", "row q in project", "find t in task below q")
        self.check_error(NotComparable(), compare_questions, found, two, three)

    def test_other_names_of_questions_are_comparable(self):
        found = survey(projects())
        one = self.question(found, "find t in task")
        two = Question.read(found.system.schema, "question where\nfind t in task")
        self.assertIsNone(self.check(found, one, two))

    def test_other_schemas_come_first(self):
        found = survey(projects())
        here = self.question(found, "find t in task")
        other = Schema.read(PROJECTS + "\nowner project owner")
        there = Question.read(other, "question q\nfind t in task")
        apart = Question.read(other, "question q\nfind p in project")
        for first, second in ((here, there), (there, here), (there, there), (here, apart), (apart, here),
                              (there, apart)):
            self.check_error(OtherSchema(), compare_questions, found, first, second)
        same = Question.read(Schema.read(PROJECTS), "question q\nfind t in task")
        self.assertIsNone(self.check(found, here, same))


class RandomTest(QuestionsCase):
    def pair(self, chance, schema):
        frame = random_question(chance, schema)
        frame = "\n".join(line for line in frame.split("\n") if not line.startswith("where "))
        base = random_needs(chance, schema, frame, chance.choice([0, 1]))
        first = random_needs(chance, schema, base, chance.choice([0, 0, 1]))
        lines = first.split("\n")
        if chance.random() < 0.3:
            wheres = [line for line in lines if line.startswith("where ")]
            chance.shuffle(wheres)
            return first, "\n".join([line for line in lines if not line.startswith("where ")] + wheres)
        return first, random_needs(chance, schema, base, chance.choice([0, 1]))

    def test_against_the_model(self):
        counts = collections.Counter()
        for seed in range(60):
            chance, system = random_owned_system(seed)
            schema, found = system.schema, survey(system)
            base = Base(system)
            play_randomly(chance, base, ["a", "b"], 40)
            for _ in range(8):
                texts = self.pair(chance, schema)
                plain = [PlainQuestion(schema.text, text) for text in texts]
                wanted = None
                for side in (0, 1):
                    depths = [depth for depth in range(found.rounds + 1)
                              if plain[side].differs(found, plain[1 - side], depth)]
                    if depths and wanted is None:
                        wanted = (side, depths[0])
                first, second = [Question.read(schema, text) for text in texts]
                with self.subTest(seed=seed, texts=texts):
                    self.assertEqual(self.check(found, first, second), wanted)
                    self.check_base(chance, base, first, second, wanted)
                counts[None if wanted is None else wanted[0]] += 1
        for name in (None, 0, 1):
            self.assertGreater(counts[name], 30, counts)

    def check_base(self, chance, base, first, second, wanted):
        """Where the verdict holds, both questions find the same rows of a base."""
        homes = [home for _, home in first.row_parameters()]
        if not all(base.numbers(home) for home in homes):
            return
        for _ in range(5):
            rows = [chance.choice(base.numbers(home)) for home in homes]
            me, *values = [chance.choice("ab") for _ in range(1 + len(first.value_parameters()))]
            one, two = base.ask(first, me, rows, values), base.ask(second, me, rows, values)
            if wanted is None:
                self.assertEqual(one, two)
            if wanted is not None and wanted[0] == 1:
                self.assertEqual([number for number in one if number not in two], [])


if __name__ == "__main__":
    unittest.main()
