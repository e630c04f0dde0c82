"""Points 48 and 53: the verdict on an agreement."""

import random
import unittest

from ownersagree.agreements import held
from ownersagree.bases import Base
from ownersagree.errors import UnknownName
from ownersagree.judging import judge_agreement
from ownersagree.surveys import survey
from ownersagree.verdicts import Fails, Holds
from tests.examples import BAD_GIVE, PROJECTS, START, boxes, projects, system_of
from tests.helpers import AgreeTestCase
from tests.plain_surveys import plain_layers
from tests.random_derivations import play_randomly
from tests.test_surveys import random_system


def all_agreements(found, more=("'zz'", "'u1'")):
    schema = found.system.schema
    return [(table, left, right) for table in schema.tables() for left in schema.positions(table)
            for right in schema.positions(table) + found.system.constants() + list(more)]


class AgreementCase(AgreeTestCase):
    def check(self, found, agreement):
        """Checks a verdict: it holds as the held set says, or its history breaks the agreement."""
        verdict = judge_agreement(found, agreement)
        if tuple(agreement) in held(found):
            self.assertIs(type(verdict), Holds)
            return None
        self.assertIs(type(verdict), Fails)
        table, left, right = agreement
        calls, address = verdict.history()
        base = Base(found.system)
        base.run_all(calls)
        self.assertEqual(len(calls), verdict.size)
        self.assertEqual(address[0], table)
        self.assertEqual(base.depth_of(*address), verdict.depth)
        row = base[address]
        self.assertNotEqual(row[left], right[1:-1] if right[0] == "'" else row[right])
        self.assertEqual(base.broken([agreement])[0], tuple(agreement))
        return verdict


class AgreementTest(AgreementCase):
    def test_the_examples(self):
        self.assertIsNone(self.check(survey(projects()), ("task", "owner", "project.owner")))
        verdict = self.check(survey(projects(BAD_GIVE)), ("task", "owner", "project.owner"))
        self.assertEqual((verdict.depth, verdict.size), (3, 3))
        self.assertEqual(verdict.summary(), "fails at depth 3 after 3 calls")

    def test_an_agreement_that_no_set_keeps(self):
        found = survey(boxes())
        self.assertIsNone(self.check(found, ("link", "x", "y")))
        self.assertEqual(self.check(found, ("box", "a", "b")).depth, 1)

    def test_tables_that_can_have_no_rows(self):
        found = survey(system_of(PROJECTS, START))
        for right in ("owner", "project.owner", "'a'", "'b'"):
            self.assertIsNone(self.check(found, ("task", "owner", right)))

    def test_the_same_position_twice(self):
        self.assertIsNone(self.check(survey(projects(BAD_GIVE)), ("task", "owner", "owner")))

    def test_constants_that_the_system_has_and_has_not(self):
        found = survey(system_of("root t x y", "handler h\nnew n in t with 'a' me",
                                 "handler k\nrow r in t\nneed r.y = 'b'\nset r.x = 'b'"))
        self.assertEqual(self.check(found, ("t", "x", "'a'")).depth, 2)
        self.assertEqual(self.check(found, ("t", "x", "'b'")).depth, 1)
        for constant in ("'c'", "'zz'", "'u1'", "'u2'", "'u3'"):
            self.assertEqual(self.check(found, ("t", "x", constant)).depth, 1)
            self.assertEqual(self.check(found, ("t", "y", constant)).depth, 1)

    def test_free_values_are_not_the_constant_by_chance(self):
        found = survey(system_of("root t x", "handler h\nvalue u\nvalue v\nnew n in t with v"))
        for number in range(12):
            self.check(found, ("t", "x", f"'u{number}'"))
            self.check(found, ("t", "x", f"'v{number}'"))

    def test_a_list(self):
        self.check(survey(projects(BAD_GIVE)), ["task", "owner", "project.owner"])

    def test_unknown_names(self):
        found = survey(projects())
        for wrong, name in ((("nope", "x", "y"), "nope"), (("task", "x", "y"), "x"), (("task", "owner", "y"), "y"),
                            (("task", "'a'", "owner"), "'a'"), (("task", "owner", "'A'"), "'A'"),
                            (("project", "project.owner", "owner"), "project.owner")):
            self.check_error(UnknownName(0, name), judge_agreement, found, wrong)

    def test_random_systems(self):
        counts = {True: 0, False: 0}
        for seed in range(40):
            _, system = random_system(seed)
            found = survey(system)
            layers = plain_layers(system)
            for agreement in all_agreements(found):
                table, left, right = agreement
                verdict = self.check(found, agreement)
                least = next((depth for depth, layer in enumerate(layers)
                              if any((left, right) not in pattern for pattern in layer[table])), None)
                self.assertEqual(None if verdict is None else verdict.depth, least)
                counts[verdict is None] += 1
        self.assertGreater(min(counts.values()), 800, counts)

    def test_random_histories_break_nothing_before(self):
        broken = 0
        for seed in range(60):
            chance, system = random_system(seed)
            found = survey(system)
            verdicts = {agreement: judge_agreement(found, agreement) for agreement in all_agreements(found)}
            base = Base(system)
            play_randomly(chance, base, ["a", "b", "c", "zz", "u1"], 120)
            for (table, left, right), verdict in verdicts.items():
                for number in base.numbers(table):
                    row = base[table, number]
                    if row[left] != (right[1:-1] if right[0] == "'" else row[right]):
                        self.assertFalse(verdict)
                        self.assertLessEqual(verdict.depth, base.depth_of(table, number))
                        broken += 1
        self.assertGreater(broken, 10000)

    def test_depth_1_is_always_told(self):
        chance = random.Random(3)
        for _ in range(20):
            columns = ["w", "x", "y", "z"]
            terms = " ".join(chance.choice(["me", "u", "v", "'a'"]) for _ in columns)
            found = survey(system_of("root t " + " ".join(columns),
                                     f"handler h\nvalue u\nvalue v\nnew n in t with {terms}"))
            for agreement in all_agreements(found):
                verdict = self.check(found, agreement)
                if verdict is not None:
                    self.assertEqual((verdict.depth, verdict.size), (1, 1))


if __name__ == "__main__":
    unittest.main()
