"""Points 48 to 50: sets of agreements."""

import random
import unittest

from ownersagree.agreements import Agreements
from ownersagree.errors import OtherSchema, UnknownName
from ownersagree.patterns import Pattern
from ownersagree.schemas import Schema
from tests.helpers import TEAMS, AgreeTestCase, teams
from tests.plain_model import PlainBase
from tests.plain_steps import is_constant, merged
from tests.random_systems import SCHEMAS


def random_agreements(chance, schema, many, constants=("'a'", "'b'")):
    found = []
    for _ in range(many):
        table = chance.choice(schema.tables())
        places = schema.positions(table)
        found.append((table, chance.choice(places), chance.choice(places * 3 + list(constants))))
    return found


class PlainAgreements:
    """What follows from agreements, by groups that are merged; None if a table can have no rows."""

    def __init__(self, schema_text, agreements):
        self.base = PlainBase(schema_text, [])
        self.groups = {}
        for table, parent in self.base.parents.items():
            groups = [[place] for place in self.base.positions(table)]
            groups += [[left, right] for home, left, right in agreements if home == table]
            if parent is not None:
                groups += [[column, f"{parent}.{source}"]
                           for home, column, source in self.base.follows if home == table]
                if self.groups[parent] is not None:
                    groups += [[member if is_constant(member) else f"{parent}.{member}" for member in group]
                               for group in self.groups[parent]]
            groups = merged(groups)
            bad = any(len([member for member in group if is_constant(member)]) > 1 for group in groups)
            self.groups[table] = None if bad or (parent and self.groups[parent] is None) else groups

    def has(self, table, left, right):
        groups = self.groups[table]
        return groups is None or left == right or any(left in group and right in group for group in groups)

    def listed(self):
        found = []
        for table, groups in self.groups.items():
            places = self.base.positions(table)
            order = places + sorted({member for group in groups or [] for member in group if is_constant(member)})
            blocks = sorted([sorted(group, key=order.index) for group in groups or []],
                            key=lambda one: order.index(one[0]))
            found += [(table, block[0], member) for block in blocks for member in block[1:]]
        return found


class SetCase(AgreeTestCase):
    def setUp(self):
        self.schema = teams()

    def of(self, *agreements):
        return Agreements.of(self.schema, *agreements)


class MemberTest(SetCase):
    def test_two_ways_to_create(self):
        given = [("task", "owner", "project.owner"), ("team", "owner", "lead")]
        for found in (Agreements(self.schema, given), Agreements.of(self.schema, *given),
                      Agreements(self.schema, [list(each) for each in given])):
            self.assertIsInstance(found, Agreements)
            self.assertIs(found.schema, self.schema)
            for agreement in given:
                self.assertIn(agreement, found)

    def test_the_list_may_be_changed(self):
        given = [("task", "owner", "project.owner")]
        found = Agreements(self.schema, given)
        given.append(("team", "owner", "lead"))
        given[0] = ("task", "owner", "state")
        self.assertEqual(found, self.of(("task", "owner", "project.owner")))
        self.assertNotIn(("team", "owner", "lead"), found)

    def test_no_agreements(self):
        found = self.of()
        self.assertEqual((len(found), found.listed()), (0, []))
        self.assertEqual(found.pattern_of("task"), Pattern(self.schema.positions("task"), []))
        self.assertNotIn(("task", "owner", "project.owner"), found)
        self.assertIn(("task", "owner", "owner"), found)

    def test_symmetric_and_transitive(self):
        found = self.of(("task", "owner", "state"), ("task", "project.owner", "state"))
        for left in ("owner", "state", "project.owner"):
            for right in ("owner", "state", "project.owner"):
                self.assertIn(("task", left, right), found)
        self.assertNotIn(("task", "owner", "project.team.owner"), found)

    def test_along_references(self):
        found = self.of(("project", "owner", "team.lead"))
        self.assertIn(("project", "team.lead", "owner"), found)
        self.assertIn(("task", "project.owner", "project.team.lead"), found)
        self.assertIn(("step", "task.project.owner", "task.project.team.lead"), found)
        self.assertNotIn(("step", "owner", "task.owner"), found)

    def test_nothing_follows_for_the_tables_above(self):
        found = self.of(("task", "project.owner", "project.team.lead"))
        self.assertNotIn(("project", "owner", "team.lead"), found)
        self.assertIn(("step", "task.project.owner", "task.project.team.lead"), found)

    def test_constants(self):
        found = self.of(("task", "owner", "'a'"), ("task", "state", "'a'"))
        self.assertIn(("task", "owner", "state"), found)
        self.assertIn(("task", "state", "'a'"), found)
        self.assertIn(("step", "task.state", "'a'"), found)
        self.assertNotIn(("task", "owner", "'b'"), found)
        self.assertNotIn(("task", "project.owner", "'a'"), found)

    def test_a_list_as_an_agreement(self):
        self.assertIn(["task", "owner", "state"], self.of(("task", "owner", "state")))

    def test_columns_that_follow(self):
        self.schema = Schema.read("root a x y\ntable b a x\ntable c b x\nfollow b x x\nfollow c x x")
        found = self.of()
        self.assertIn(("b", "x", "a.x"), found)
        self.assertIn(("c", "x", "b.a.x"), found)
        self.assertEqual(found.listed(), [("b", "x", "a.x"), ("c", "x", "b.x"), ("c", "x", "b.a.x")])
        found = self.of(("a", "x", "'p'"))
        self.assertIn(("c", "x", "'p'"), found)
        self.assertIsNone(self.of(("a", "x", "'p'"), ("c", "b.x", "'q'")).pattern_of("c"))

    def test_unknown_names(self):
        for wrong, name in ((("nope", "x", "y"), "nope"), (("task", "x", "y"), "x"), (("task", "'a'", "owner"), "'a'"),
                            (("task", "owner", "x"), "x"), (("task", "owner", "'A'"), "'A'"), (("", "", ""), ""),
                            (("task", "owner", "owner.project"), "owner.project"), (("team", "project.owner", "owner"),
                                                                                  "project.owner")):
            good = ("task", "owner", "state")
            for given in ([wrong], [good, wrong], [wrong, ("zz", "zz", "zz")], [good, wrong, good]):
                self.check_error(UnknownName(0, name), Agreements, self.schema, given)
                self.check_error(UnknownName(0, name), Agreements.of, self.schema, *given)
            for found in (self.of(), self.of(("team", "owner", "'a'"), ("team", "owner", "'b'"))):
                self.check_error(UnknownName(0, name), lambda: wrong in found)


class NoRowTest(SetCase):
    def setUp(self):
        SetCase.setUp(self)
        self.found = self.of(("project", "owner", "'a'"), ("project", "team.lead", "'b'"),
                             ("project", "owner", "team.lead"))

    def test_all_agreements_of_the_table_and_of_those_below(self):
        for table in ("project", "task", "step"):
            places = self.schema.positions(table)
            self.assertIsNone(self.found.pattern_of(table))
            for left in places:
                for right in places + ["'a'", "'zz'"]:
                    self.assertIn((table, left, right), self.found)

    def test_nothing_follows_elsewhere(self):
        for table in ("team", "note", "remark"):
            self.assertEqual(self.found.pattern_of(table), Pattern(self.schema.positions(table), []))
        self.assertNotIn(("team", "lead", "'b'"), self.found)

    def test_listed(self):
        self.assertEqual((self.found.listed(), len(self.found)), ([], 0))
        self.assertNotEqual(self.found, self.of())
        self.assertEqual((self.found <= self.of(), self.of() <= self.found), (False, True))

    def test_only_a_table_below(self):
        found = self.of(("team", "owner", "'a'"), ("task", "project.team.owner", "'b'"))
        self.assertEqual(found.pattern_of("project"),
                         Pattern(self.schema.positions("project"), [["team.owner", "'a'"]]))
        self.assertIsNone(found.pattern_of("task"))
        self.assertIsNone(found.pattern_of("step"))
        self.assertEqual(found.listed(), [("team", "owner", "'a'"), ("project", "team.owner", "'a'")])

    def test_the_same_set_in_other_words(self):
        other = self.of(("project", "owner", "'c'"), ("project", "owner", "'d'"))
        self.assertEqual(self.found, other)
        self.assertLessEqual(self.found, other)
        self.assertLessEqual(other, self.found)


class ListedTest(SetCase):
    def test_the_order(self):
        found = self.of(("task", "project.owner", "'b'"), ("task", "owner", "project.team.lead"),
                        ("note", "text", "'a'"),
                        ("team", "lead", "owner"), ("task", "state", "project.owner"))
        self.assertEqual(found.listed(), [
            ("team", "owner", "lead"), ("project", "team.owner", "team.lead"),
            ("task", "owner", "project.team.owner"), ("task", "owner", "project.team.lead"),
            ("task", "state", "project.owner"), ("task", "state", "'b'"),
            ("step", "task.owner", "task.project.team.owner"), ("step", "task.owner", "task.project.team.lead"),
            ("step", "task.state", "task.project.owner"), ("step", "task.state", "'b'"),
            ("note", "text", "'a'"), ("remark", "note.text", "'a'")])
        self.assertEqual(len(found), 12)

    def test_a_new_list(self):
        found = self.of(("note", "text", "'a'"))
        found.listed().clear()
        self.assertEqual(len(found.listed()), 2)

    def test_the_listed_agreements_tell_the_set(self):
        for seed in range(60):
            chance = random.Random(seed)
            schema = Schema.read(chance.choice(SCHEMAS))
            found = Agreements(schema, random_agreements(chance, schema, 3, ("'a'",)))
            self.assertEqual(Agreements(schema, found.listed()), found)

    def test_pattern_of(self):
        found = self.of(("project", "owner", "team.lead"), ("project", "owner", "'a'"))
        self.assertEqual(str(found.pattern_of("project")), "owner = team.lead = 'a'; team.owner")
        for name in ("nope", "", "Task"):
            self.check_error(UnknownName(0, name), found.pattern_of, name)


class CompareTest(SetCase):
    def test_equal(self):
        one = self.of(("team", "owner", "lead"))
        self.assertEqual(one, self.of(("team", "lead", "owner"), ("task", "project.team.lead", "project.team.owner")))
        self.assertNotEqual(one, self.of(("project", "team.owner", "team.lead")))
        self.assertNotEqual(one, self.of())
        self.assertEqual(self.of(), self.of(("team", "owner", "owner")))

    def test_values_of_other_classes(self):
        one = self.of(("team", "owner", "lead"))
        for other in (None, 0, [], one.listed(), tuple(one.listed()), "x", self.schema, object(),
                      one.pattern_of("team")):
            self.assertFalse(one == other)
            self.assertTrue(one != other)

    def test_other_schemas(self):
        one, two = self.of(), Agreements.of(Schema.read(TEAMS + "\nowner note text"))
        same = Agreements.of(teams())
        self.assertNotEqual(one, two)
        self.assertEqual(one, same)
        self.assertEqual((one <= same, (one & same) == one), (True, True))
        self.check_error(OtherSchema(), lambda: one <= two)
        self.check_error(OtherSchema(), lambda: one & two)
        self.check_error(OtherSchema(), lambda: two <= one)
        self.check_error(OtherSchema(), lambda: two & one)

    def test_contained(self):
        one, two = self.of(("team", "owner", "lead")), self.of(("team", "owner", "lead"), ("note", "text", "'a'"))
        self.assertEqual((one <= two, two <= one, one <= one, self.of() <= one), (True, False, True, True))
        other = self.of(("note", "text", "'b'"))
        self.assertEqual((one <= other, other <= one, other <= two), (False, False, False))

    def test_shared(self):
        one = self.of(("task", "owner", "state"), ("task", "state", "project.owner"), ("note", "text", "'a'"))
        two = self.of(("task", "owner", "project.owner"), ("note", "text", "'b'"), ("team", "owner", "lead"))
        found = one & two
        self.assertIsInstance(found, Agreements)
        self.assertIs(found.schema, self.schema)
        self.assertEqual(found, self.of(("task", "owner", "project.owner")))
        self.assertEqual(found, two & one)

    def test_shared_with_a_table_that_can_have_no_rows(self):
        none = self.of(("task", "owner", "'a'"), ("task", "owner", "'b'"))
        one = self.of(("task", "owner", "state"), ("step", "owner", "'c'"), ("note", "text", "'a'"))
        self.assertEqual(none & one, self.of(("task", "owner", "state"), ("step", "owner", "'c'")))
        self.assertEqual(one & none, none & one)
        other = self.of(("project", "owner", "'a'"), ("project", "owner", "'b'"))
        self.assertIsNone((none & other).pattern_of("task"))
        self.assertIsNotNone((none & other).pattern_of("project"))
        self.assertEqual(none & other, none)

    def test_against_groups(self):
        bad = 0
        for seed in range(150):
            chance = random.Random(seed)
            schema = Schema.read(chance.choice(SCHEMAS))
            one, two = [random_agreements(chance, schema, chance.randrange(9), ("'a'", "'b'") * 3) for _ in range(2)]
            sets = [Agreements(schema, given) for given in (one, two)]
            plain = [PlainAgreements(schema.text, given) for given in (one, two)]
            for found, wanted in zip(sets, plain):
                self.assertEqual(found.listed(), wanted.listed())
                self.assertEqual(len(found), len(wanted.listed()))
            all_of_them = [(table, left, right) for table in schema.tables() for left in schema.positions(table)
                           for right in schema.positions(table) + ["'a'", "'b'", "'c'"]]
            told = [{each for each in all_of_them if wanted.has(*each)} for wanted in plain]
            for found, wanted in zip(sets, told):
                self.assertEqual({each for each in all_of_them if each in found}, wanted)
            both = sets[0] & sets[1]
            self.assertEqual({each for each in all_of_them if each in both}, told[0] & told[1])
            self.assertEqual(sets[0] <= sets[1], told[0] <= told[1])
            self.assertEqual(sets[0] == sets[1], told[0] == told[1])
            self.assertTrue(both <= sets[0] and both <= sets[1])
            for table in schema.tables():
                self.assertEqual(sets[0].pattern_of(table) is None, plain[0].groups[table] is None)
                bad += plain[0].groups[table] is None
        self.assertGreater(bad, 20)


if __name__ == "__main__":
    unittest.main()
