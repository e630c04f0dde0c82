"""Points 51, 52 and 68: agreements that hold and agreements that are kept."""

import itertools
import random
import unittest

from ownersagree.agreements import Agreements, held, kept
from ownersagree.bases import Base
from ownersagree.cases import cases, pieces, step
from ownersagree.errors import AgreeError, OtherSchema
from ownersagree.patterns import Pattern
from ownersagree.schemas import Schema
from ownersagree.surveys import survey
from ownersagree.systems import System
from tests.examples import BAD_GIVE, GIVE, PLAN, PROJECTS, START, boxes, projects, system_of
from tests.helpers import TEAMS, AgreeTestCase
from tests.random_derivations import random_call
from tests.random_systems import random_handler, random_needs
from tests.test_agreements import random_agreements
from tests.test_surveys import random_system


def is_kept(system, found):
    """Tells whether a set is kept, by the step of every case from its patterns."""
    for name in system.names():
        for table in system.schema.tables():
            for case in cases(system[name], table):
                patterns = [found.pattern_of(home) for home in pieces(system[name], table, case)]
                if None not in patterns:
                    told = step(system[name], table, case, patterns)
                    wanted = found.pattern_of(table)
                    if told is not None and (wanted is None or not wanted <= told):
                        return False
    return True


class HeldTest(AgreeTestCase):
    def test_the_examples(self):
        found = held(survey(projects()))
        self.assertIsInstance(found, Agreements)
        self.assertEqual(found.listed(), [("task", "owner", "project.owner")])
        self.assertEqual(held(survey(projects(BAD_GIVE))).listed(), [])

    def test_boxes(self):
        found = held(survey(boxes()))
        self.assertEqual(found.listed(), [("link", "x", "y"), ("link", "x", "box.a"), ("link", "x", "box.b"),
                                          ("link", "x", "box.c")])

    def test_tables_without_patterns(self):
        found = held(survey(system_of(PROJECTS, START)))
        self.assertIsNone(found.pattern_of("task"))
        self.assertEqual(str(found.pattern_of("project")), "owner")
        found = held(survey(system_of(PROJECTS)))
        self.assertIsNone(found.pattern_of("project"))
        self.assertIsNone(found.pattern_of("task"))

    def test_constants(self):
        found = held(survey(system_of("root t x y", "handler h\nnew n in t with 'a' 'b'",
                                      "handler k\nnew n in t with 'a' 'c'")))
        self.assertEqual(found.listed(), [("t", "x", "'a'")])

    def test_what_all_finest_patterns_join(self):
        for seed in range(60):
            _, system = random_system(seed)
            found = survey(system)
            agreements = held(found)
            for table in system.schema.tables():
                patterns = found.patterns(table)
                places = system.schema.positions(table)
                self.assertEqual(agreements.pattern_of(table) is None, not patterns)
                for left in places:
                    for right in places + system.constants() + ["'zz'"]:
                        self.assertEqual((table, left, right) in agreements,
                                         all((left, right) in pattern for pattern in patterns))


class KeptTest(AgreeTestCase):
    def test_the_example(self):
        self.assertEqual(kept(projects()).listed(), [("task", "owner", "project.owner")])
        self.assertEqual(kept(projects(BAD_GIVE)).listed(), [])
        self.assertIsInstance(kept(projects()), Agreements)

    def test_an_agreement_that_holds_without_being_kept(self):
        system = boxes()
        self.assertEqual((("link", "x", "y") in held(survey(system)), ("link", "x", "y") in kept(system)),
                         (True, False))

    def test_tables_that_no_handler_fills(self):
        found = kept(system_of(PROJECTS, START))
        self.assertIsNone(found.pattern_of("task"))
        self.assertEqual(str(found.pattern_of("project")), "owner")
        found = kept(system_of(PROJECTS, PLAN, GIVE))
        self.assertIsNone(found.pattern_of("project"))
        self.assertIsNone(found.pattern_of("task"))

    def test_within(self):
        system = projects()
        wished = Agreements.of(system.schema, ("task", "owner", "project.owner"), ("project", "owner", "'a'"))
        self.assertEqual(kept(system, within=wished), kept(system))
        whole = kept(system)
        self.assertEqual(kept(system, within=whole), whole)

    def test_within_a_set_of_length_0(self):
        system = projects()
        nothing = Agreements.of(system.schema)
        self.assertEqual(len(nothing), 0)
        self.assertEqual(kept(system, within=nothing), nothing)
        none = Agreements.of(system.schema, ("project", "owner", "'a'"), ("project", "owner", "'b'"))
        self.assertEqual(len(none), 0)
        self.assertEqual(kept(system, within=none), kept(system))
        self.assertNotEqual(kept(system), nothing)

    def test_within_a_set_that_joins_two_constants(self):
        system = system_of(PROJECTS, PLAN, GIVE)
        none = Agreements.of(system.schema, ("task", "owner", "'a'"), ("task", "owner", "'b'"))
        found = kept(system, within=none)
        # Nobody makes a project, but projects may be there; plan then makes a task of the same owner.
        self.assertEqual(found.listed(), [("task", "owner", "project.owner")])
        system = system_of(PROJECTS, START, GIVE)
        self.assertEqual(kept(system, within=none), none)

    def test_within_constants_that_the_system_does_not_have(self):
        system = system_of("root t x y", "handler h\nrow r in t\nset r.x = r.y")
        one = Agreements.of(system.schema, ("t", "x", "'zz'"))
        self.assertEqual(kept(system, within=one), Agreements.of(system.schema))
        both = Agreements.of(system.schema, ("t", "x", "'zz'"), ("t", "y", "'zz'"))
        self.assertEqual(kept(system, within=both), both)

    def test_the_set_that_is_passed_stays(self):
        system = projects(BAD_GIVE)
        wished = Agreements.of(system.schema, ("task", "owner", "project.owner"))
        kept(system, within=wished)
        self.assertEqual(wished.listed(), [("task", "owner", "project.owner")])

    def test_another_schema(self):
        system = projects()
        for schema in (Schema.read(TEAMS), Schema.read(PROJECTS + "\nowner project owner")):
            with self.assertRaises(OtherSchema):
                kept(system, within=Agreements.of(schema))
        self.assertEqual(kept(system, within=Agreements.of(Schema.read(PROJECTS))).listed(), [])

    def test_columns_that_follow(self):
        schema = "root project owner\ntable task project owner\nfollow task owner owner"
        self.assertEqual(kept(system_of(schema, START, PLAN, BAD_GIVE)).listed(), [("task", "owner", "project.owner")])

    def test_random_systems(self):
        for seed in range(60):
            chance, system = random_system(seed)
            found, holds = kept(system), held(survey(system))
            self.assertTrue(is_kept(system, found))
            self.assertLessEqual(found, holds)
            for _ in range(4):
                wished = Agreements(system.schema, random_agreements(chance, system.schema, chance.randrange(6)))
                within = kept(system, within=wished)
                self.assertTrue(is_kept(system, within))
                self.assertLessEqual(within, wished)
                self.assertLessEqual(within, found)
                self.assertEqual(within == wished, is_kept(system, wished))


def all_blocks(places, constants):
    """Yields the blocks of all patterns of places, with constants of a few."""
    def divisions(rest):
        if not rest:
            yield []
            return
        for blocks in divisions(rest[1:]):
            yield [[rest[0]]] + blocks
            for index in range(len(blocks)):
                yield blocks[:index] + [[rest[0]] + blocks[index]] + blocks[index + 1:]
    for blocks in divisions(places):
        for chosen in itertools.product([None, *constants], repeat=len(blocks)):
            used = [constant for constant in chosen if constant]
            if len(used) == len(set(used)):
                yield [block + [constant] * (constant is not None) for block, constant in zip(blocks, chosen)]


class GreatestTest(AgreeTestCase):
    """The greatest kept set, against all sets of agreements over a small schema."""

    SCHEMA = "root a x y\ntable b a z"

    def all_sets(self, schema):
        found = []
        choices = []
        for table in schema.tables():
            places = schema.positions(table)
            blocks = list(all_blocks(places, ["'a'", "'b'"]))
            choices.append([[(table, block[0], member) for block in one for member in block[1:]] for one in blocks]
                           + [[(table, places[0], "'a'"), (table, places[0], "'b'")]])
        for chosen in itertools.product(*choices):
            one = Agreements(schema, [agreement for part in chosen for agreement in part])
            if one not in found:
                found.append(one)
        return found

    def test_against_all_sets(self):
        schema = Schema.read(self.SCHEMA)
        sets = self.all_sets(schema)
        self.assertGreater(len(sets), 100)
        for seed in range(25):
            chance = random.Random(seed)
            texts = [random_needs(chance, schema, random_handler(chance, schema, f"h{index}"), chance.choice([0, 1, 2]))
                     for index in range(chance.randrange(1, 4))]
            system = system_of(self.SCHEMA, *texts)
            good = [one for one in sets if is_kept(system, one)]
            found = kept(system)
            self.assertIn(found, good)
            for one in good:
                self.assertLessEqual(one, found)
            for _ in range(3):
                wished = chance.choice(sets)
                within = kept(system, within=wished)
                self.assertIn(within, [one for one in good if one <= wished])
                for one in good:
                    if one <= wished:
                        self.assertLessEqual(one, within)


class FilledTest(AgreeTestCase):
    """Bases that no history needs to reach, filled with rows that have the agreements of a kept set."""

    VALUES = ["a", "b", "c", "d"]

    def put_row(self, chance, base, agreements, table):
        """Puts in a row that has the agreements, if that is possible under the parent that is drawn."""
        schema = base.system.schema
        pattern, above = agreements.pattern_of(table), schema.parent_of(table)
        parent = None
        if pattern is None or (above is not None and not base.numbers(above)):
            return
        if above is not None:
            parent = chance.choice(base.numbers(above))
        own = schema.columns(table)
        cells = {}
        for block in pattern.blocks():
            values = {member.strip("'") for member in block if member.startswith("'")}
            values |= {base[above, parent][place.split(".", 1)[1]] for place in block
                       if place not in own and not place.startswith("'")}
            if len(values) > 1:
                return
            value = values.pop() if values else chance.choice(self.VALUES)
            cells.update({place: value for place in block})
        base.put(table, parent, [cells[column] for column in own])

    def check(self, chance, system, agreements):
        base = Base(system)
        for table in system.schema.tables() * 5:
            self.put_row(chance, base, agreements, table)
        listed = agreements.listed()
        self.assertIsNone(base.broken(listed))
        done = 0
        for _ in range(60):
            call = random_call(chance, base, self.VALUES)
            if call is not None:
                try:
                    base.run(call)
                except AgreeError:
                    continue
                done += 1
                self.assertIsNone(base.broken(listed))
                for table in system.schema.tables():
                    if agreements.pattern_of(table) is None:
                        self.assertEqual(base.numbers(table), [])
        return done

    def test_allowed_calls_keep_them(self):
        done = full = 0
        for seed in range(80):
            chance, system = random_system(seed)
            sets = [kept(system)]
            for _ in range(2):
                wished = Agreements(system.schema, random_agreements(chance, system.schema, 4))
                sets.append(kept(system, within=wished))
            for agreements in sets:
                full += len(agreements) > 0
                done += self.check(chance, system, agreements)
        self.assertGreater(done, 3000)
        self.assertGreater(full, 60)

    def test_calls_break_a_set_that_is_not_kept(self):
        system = boxes()
        base = Base(system)
        base.put("box", None, ["a", "b", "a"])
        agreements = Agreements.of(system.schema, ("link", "x", "y"))
        self.assertIsNone(base.broken(agreements.listed()))
        base.run(("copy", "x", (1,), ()))
        self.assertEqual(base.broken(agreements.listed()), (("link", "x", "y"), 1))


class WatchedTest(AgreeTestCase):
    def test_a_watched_base_refuses_nothing_that_is_kept(self):
        for seed in range(30):
            chance, system = random_system(seed)
            base = Base(system, watch=held(survey(system)).listed())
            for _ in range(60):
                call = random_call(chance, base, ["a", "b", "c"])
                if call is not None:
                    try:
                        base.run(call)
                    except AgreeError as error:
                        self.assertIsNotNone(getattr(error, "guard", 0))

    def test_patterns_of_a_system_without_handlers(self):
        system = System(Schema.read(PROJECTS), [])
        self.assertEqual(kept(system), held(survey(system)))
        self.assertEqual(kept(system, within=Agreements.of(system.schema)).pattern_of("project"),
                         Pattern(["owner"], []))


if __name__ == "__main__":
    unittest.main()
