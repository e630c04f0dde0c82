"""Points 41 and 62: two systems."""

import collections
import unittest

from ownersagree.bases import Base
from ownersagree.comparing import compare
from ownersagree.errors import OtherSchema
from ownersagree.surveys import survey
from ownersagree.systems import System
from ownersagree.verdicts import Holds, Parted
from tests.examples import BAD_GIVE, GIVE, PLAN, PROJECTS, START, boxes, projects, system_of
from tests.helpers import AgreeTestCase
from tests.test_surveys import random_system


def plainly_apart(first, second):
    """The side, the table and the text of the first pattern that one side has alone, or None."""
    for side, one, other in ((0, first, second), (1, second, first)):
        for table in one.system.schema.tables():
            for pattern in one.patterns(table):
                if not any(theirs <= pattern for theirs in other.patterns(table)):
                    return side, table, str(pattern)
    return None


class CompareTest(AgreeTestCase):
    def check(self, first, second):
        """Checks a verdict, and returns it as a tuple or None."""
        verdict = compare(first, second)
        wanted = plainly_apart(first, second)
        self.assertEqual(bool(verdict), first <= second and second <= first)
        if wanted is None:
            self.assertIs(type(verdict), Holds)
            self.assertEqual(verdict.summary(), "holds")
            return None
        self.assertIs(type(verdict), Parted)
        self.assertEqual((verdict.side, verdict.table, str(verdict.pattern)), wanted)
        found = (first, second)[verdict.side]
        self.assertIn(verdict.pattern, found.patterns(verdict.table))
        self.assertEqual(verdict.depth, found.depth_of(verdict.table, verdict.pattern))
        self.assertEqual(verdict.summary(),
                         f"fails at depth {verdict.depth} after {verdict.size} calls: side {verdict.side}")
        self.check_played(found, first.system.constants() + second.system.constants(), verdict)
        return wanted

    def check_played(self, found, constants, verdict):
        calls, address = verdict.history()
        base = Base(found.system)
        base.run_all(calls)
        self.assertEqual(len(calls), verdict.size)
        self.assertEqual(address[0], verdict.table)
        self.assertEqual(base.pattern_of(*address), verdict.pattern)
        self.assertEqual(base.depth_of(*address), verdict.depth)
        for place in verdict.pattern.places:
            for constant in constants:
                joined = (place, constant) in verdict.pattern
                self.assertEqual(base[address][place] == constant[1:-1], joined)

    def test_the_examples(self):
        good, bad = survey(projects()), survey(projects(BAD_GIVE))
        self.assertIsNone(self.check(good, good))
        self.assertIsNone(self.check(bad, survey(projects(BAD_GIVE))))
        self.assertEqual(self.check(good, bad), (1, "task", "owner; project.owner"))
        self.assertEqual(self.check(bad, good), (0, "task", "owner; project.owner"))

    def test_systems_without_rows(self):
        empty, good = survey(system_of(PROJECTS)), survey(projects())
        self.assertIsNone(self.check(empty, survey(system_of(PROJECTS, PLAN, GIVE))))
        self.assertEqual(self.check(empty, good), (1, "project", "owner"))
        self.assertEqual(self.check(good, empty), (0, "project", "owner"))
        self.assertEqual(self.check(survey(system_of(PROJECTS, START)), good), (1, "task", "owner = project.owner"))

    def test_side_0_comes_first(self):
        schema = "root a x y\nroot b x y"
        one = survey(system_of(schema, "handler h\nnew n in b with me me\nnew m in a with 'a' me"))
        two = survey(system_of(schema, "handler h\nnew n in b with 'b' me\nnew m in a with me 'a'"))
        self.assertEqual(self.check(one, two), (0, "a", "x = 'a'; y"))
        self.assertEqual(self.check(two, one), (0, "a", "x; y = 'a'"))
        three = survey(system_of(schema, "handler h\nnew n in b with me 'c'\nnew m in a with 'a' me"))
        self.assertEqual(self.check(one, three), (0, "b", "x = y"))

    def test_the_first_text(self):
        schema = "root a x y"
        one = survey(system_of(schema,
                               "handler h\nnew n in a with 'b' 'c'\nnew m in a with 'b' 'a'\nnew k in a with 'a' 'b'"))
        two = survey(system_of(schema, "handler h\nnew k in a with 'a' 'b'"))
        self.assertEqual(self.check(one, two), (0, "a", "x = 'b'; y = 'a'"))
        self.assertEqual(self.check(two, one), (1, "a", "x = 'b'; y = 'a'"))

    def test_constants_that_only_one_system_has(self):
        schema = "root a x y"
        free = survey(system_of(schema, "handler h\nvalue u\nnew n in a with me u"))
        constants = [f"'u{number}'" for number in range(1, 5)]
        for constant in constants:
            one = survey(system_of(schema, f"handler h\nnew n in a with me {constant}"))
            self.assertEqual(self.check(one, free), (1, "a", "x; y"))
            self.assertEqual(self.check(free, one), (0, "a", "x; y"))
            two = survey(system_of(schema, "handler h\nnew n in a with me 'u1'"))
            if constant != "'u1'":
                self.assertEqual(self.check(one, two), (0, "a", f"x; y = {constant}"))

    def test_other_owner_and_follow_lines(self):
        schema = "root project owner\ntable task project owner"
        follow = f"{schema}\nfollow task owner owner"
        first = survey(system_of(follow, START, PLAN, BAD_GIVE))
        self.assertIsNone(self.check(first, survey(projects())))
        self.assertEqual(self.check(first, survey(projects(BAD_GIVE))), (1, "task", "owner; project.owner"))
        self.assertIsNone(self.check(survey(system_of(schema, START, PLAN, GIVE)), survey(projects())))

    def test_other_schemas(self):
        found = survey(projects())
        for other in (survey(boxes()), survey(system_of("root project owner")),
                      survey(system_of("root project owner\nroot task owner")),
                      survey(system_of("root project owner\ntable task project owner state"))):
            self.check_error(OtherSchema(), compare, found, other)
            self.check_error(OtherSchema(), compare, other, found)

    def test_random_systems(self):
        counts = collections.Counter()
        for seed in range(120):
            chance, system = random_system(seed, extra=5)
            handlers = [system[name] for name in system.names()]
            first = survey(System(system.schema, [one for one in handlers if chance.random() < 0.85]))
            second = survey(System(system.schema, [one for one in handlers if chance.random() < 0.85]))
            wanted = self.check(first, second)
            counts["holds" if wanted is None else wanted[0]] += 1
        for name in ("holds", 0, 1):
            self.assertGreater(counts[name], 10, counts)


if __name__ == "__main__":
    unittest.main()
