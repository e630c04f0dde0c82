"""Points 57 and 58: the verdict on a question."""

import collections
import unittest

from ownersagree.agreements import held
from ownersagree.bases import Base
from ownersagree.errors import OtherSchema
from ownersagree.judging import judge_question
from ownersagree.questions import Question
from ownersagree.schemas import Schema
from ownersagree.surveys import survey
from ownersagree.verdicts import Asked, Within
from tests.examples import BAD_GIVE, BOXES, COPY, LEFT, PROJECTS, RIGHT, START, projects, system_of
from tests.helpers import AgreeTestCase
from tests.plain_verdicts import PlainQuestion
from tests.random_derivations import play_randomly
from tests.random_systems import random_needs, random_owned_system, random_question


def question(found, *lines):
    return Question.read(found.system.schema, "\n".join(["question q", *lines]))


class QuestionCase(AgreeTestCase):
    def check_played(self, found, asked, verdict):
        """Plays the history of an Asked: the question finds a row of somebody else, and no row is too deep."""
        name, table, above = asked.found()
        calls, address = verdict.history()
        me, rows, values = verdict.asked()
        base = Base(found.system)
        base.run_all(calls)
        self.assertEqual(len(calls), verdict.size)
        self.assertEqual(address[0], table)
        self.assertIn(address[1], base.ask(asked, me, rows, values))
        depths = [base.depth_of(*address)] + [base.depth_of(home, number) for (_, home), number
                                              in zip(asked.row_parameters(), rows)]
        self.assertEqual(max(depths), verdict.depth)
        return base, address, me

    def check_asked(self, found, asked, depth=None):
        verdict = judge_question(found, asked)
        self.assertIs(type(verdict), Asked)
        self.assertIsNone(verdict.side)
        base, address, me = self.check_played(found, asked, verdict)
        owner = found.system.schema.owner_of(address[0])
        self.assertNotEqual(base[address][owner], me)
        self.assertEqual(verdict.summary(), f"fails at depth {verdict.depth} after {verdict.size} calls: {address[0]}")
        if depth is not None:
            self.assertEqual(verdict.depth, depth)
        return verdict

    def check_within(self, found, asked, rests):
        verdict = judge_question(found, asked)
        self.assertIs(type(verdict), Within)
        self.assertEqual((verdict.rests, verdict.summary()), (rests, f"holds: rests on {rests}"))


class QuestionTest(QuestionCase):
    def setUp(self):
        self.good, self.bad = survey(projects()), survey(projects(BAD_GIVE))

    def test_without_parameters(self):
        for found in (self.good, self.bad):
            self.check_asked(found, question(found, "find t in task"), 2)
            self.check_within(found, question(found, "find t in task", "where t.owner = me"), "agreements")
        self.check_within(self.good, question(self.good, "find t in task", "where t.project.owner = me"), "agreements")
        self.check_asked(self.bad, question(self.bad, "find t in task", "where t.project.owner = me"), 3)

    def test_below(self):
        lines = ["row p in project", "find t in task below p", "where p.owner = me"]
        self.check_within(self.good, question(self.good, *lines), "agreements")
        self.check_asked(self.bad, question(self.bad, *lines), 3)
        beside = ["row p in project", "find t in task", "where p.owner = me"]
        self.check_asked(self.good, question(self.good, *beside), 2)

    def test_rows_on_other_chains(self):
        lines = ["row s in task", "row p in project", "find t in task below p", "where s.project.owner = me",
                 "where s.owner = t.owner"]
        self.check_within(self.good, question(self.good, *lines), "agreements")
        self.check_asked(self.bad, question(self.bad, *lines), 3)
        self.check_asked(self.good, question(self.good, *lines[:-1]), 2)

    def test_values(self):
        lines = ["value u", "find t in task", "where t.owner = u"]
        self.check_asked(self.good, question(self.good, *lines), 2)
        self.check_within(self.good, question(self.good, *lines, "where u = me"), "agreements")

    def test_constants_of_its_own(self):
        for constant in ("'a'", "'u1'", "'u2'", "'u3'"):
            found = self.good
            self.check_asked(found, question(found, "find t in task", f"where t.owner = {constant}"), 2)
            self.check_asked(found, question(found, "find t in task", f"where me = {constant}"), 2)
            self.check_within(found, question(found, "find t in task", f"where t.project.owner = {constant}",
                                              f"where me = {constant}"), "agreements")
            self.check_within(found, question(found, "find t in task", f"where t.owner = {constant}",
                                              "where t.project.owner = 'x'"), "nothing")

    def test_found_tables_without_an_owner_line(self):
        self.check_within(self.bad, question(self.bad, "find p in project"), "nothing")
        self.check_within(self.bad, question(self.bad, "value u", "find p in project", "where p.owner = u"), "nothing")

    def test_nothing_is_ever_found(self):
        found = survey(system_of(PROJECTS, START))
        self.check_within(found, question(found, "find t in task"), "nothing")
        self.check_within(self.bad, question(self.bad, "find t in task", "where 'a' = 'b'"), "nothing")
        self.check_within(self.bad, question(self.bad, "find t in task", "where t.owner = 'a'", "where t.owner = 'b'"),
                          "nothing")

    def test_rests_on_patterns(self):
        # Links are owned at x, which equals y only because of the two kinds of boxes.
        copy = COPY.replace("need p.a = p.c\n", "")
        found = survey(system_of(BOXES + "\nowner link x", LEFT, RIGHT, copy))
        self.check_asked(found, question(found, "find n in link", "where n.y = me"), 2)
        both = ["find n in link", "where n.box.a = n.box.c", "where n.y = me"]
        self.check_within(found, question(found, *both), "patterns")
        self.check_within(found, question(found, *both, "where n.x = n.box.c"), "agreements")

    def test_the_first_word_that_applies(self):
        # No row of t is ever found, and this is known from the patterns alone.
        found = survey(system_of("root t x y\nowner t x", "handler h\nnew n in t with 'a' 'b'",
                                 "handler k\nnew n in t with 'b' 'a'"))
        self.check_within(found, question(found, "find n in t", "where n.x = n.y"), "nothing")
        self.check_within(found, question(found, "find n in t", "where n.x = 'a'", "where n.y = 'a'"), "nothing")
        self.check_within(found, question(found, "find n in t", "where n.x = me"), "agreements")
        self.check_within(found, question(found, "find n in t", "where n.y = 'a'", "where me = 'b'"), "patterns")

    def test_the_least_depth_of_all_rows(self):
        # The found row has depth 1, and an argument needs depth 3.
        found = survey(system_of("root t x y\nroot s k\nowner t x", "handler h\nvalue u\nnew n in t with me u",
                                 "handler a\nnew n in s with 'a'",
                                 "handler b\nrow r in s\nneed r.k = 'a'\nset r.k = 'b'",
                                 "handler c\nrow r in s\nneed r.k = 'b'\nset r.k = 'c'"))
        for constant, depth in (("'a'", 1), ("'b'", 2), ("'c'", 3)):
            verdict = self.check_asked(found, question(found, "row s in s", "find n in t", f"where s.k = {constant}"),
                                       depth)
            self.assertEqual(verdict.size, 1 + depth)
        self.check_within(found, question(found, "row s in s", "find n in t", "where s.k = 'd'"), "nothing")

    def test_other_schemas(self):
        for text in (PROJECTS + "\nowner project owner", "root task owner\nowner task owner"):
            other = Question.read(Schema.read(text), "question q\nfind t in task")
            self.check_error(OtherSchema(), judge_question, self.good, other)
        same = Question.read(Schema.read(PROJECTS), "question q\nfind t in task")
        self.check_asked(self.good, same, 2)


class RandomTest(QuestionCase):
    def test_against_the_model(self):
        counts = collections.Counter()
        for seed in range(80):
            chance, system = random_owned_system(seed)
            schema, found = system.schema, survey(system)
            agreements = held(found)
            for _ in range(8):
                text = random_needs(chance, schema, random_question(chance, schema), chance.choice([0, 1, 2]))
                asked = Question.read(schema, text)
                owner = schema.owner_of(asked.found()[1])
                wanted = PlainQuestion(schema.text, text).judge(found, agreements, owner)
                with self.subTest(seed=seed, text=text):
                    if isinstance(wanted, str):
                        self.check_within(found, asked, wanted)
                    else:
                        self.check_asked(found, asked, wanted)
                counts[wanted if isinstance(wanted, str) else "asked"] += 1
        for name in ("nothing", "agreements", "asked"):
            self.assertGreater(counts[name], 30, counts)

    def test_random_histories_find_no_such_row_before(self):
        counts = collections.Counter()
        for seed in range(60):
            chance, system = random_owned_system(seed)
            schema, found = system.schema, survey(system)
            base = Base(system)
            play_randomly(chance, base, ["a", "b", "c"], 120)
            for _ in range(6):
                text = random_needs(chance, schema, random_question(chance, schema), chance.choice([0, 1]))
                asked = Question.read(schema, text)
                self.check_asking(chance, found, base, asked, counts)
        self.assertGreater(counts["other"], 200, counts)
        self.assertGreater(counts["own"], 200, counts)

    def check_asking(self, chance, found, base, asked, counts):
        verdict = judge_question(found, asked)
        table = asked.found()[1]
        owner = base.system.schema.owner_of(table)
        homes = [home for _, home in asked.row_parameters()]
        if owner is None or not all(base.numbers(home) for home in homes):
            return
        for _ in range(10):
            rows = [chance.choice(base.numbers(home)) for home in homes]
            me, *values = [chance.choice("abc") for _ in range(1 + len(asked.value_parameters()))]
            for number in base.ask(asked, me, rows, values):
                if base[table, number][owner] == me:
                    counts["own"] += 1
                    continue
                counts["other"] += 1
                self.assertFalse(verdict)
                depths = [base.depth_of(home, row) for home, row in zip(homes, rows)]
                self.assertLessEqual(verdict.depth, max(depths + [base.depth_of(table, number)]))


if __name__ == "__main__":
    unittest.main()
