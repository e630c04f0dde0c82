"""Point 47: lists of patterns that are closed."""

import itertools
import unittest

from ownersagree.cases import cases, pieces, step
from ownersagree.histories import first_gap
from ownersagree.patterns import Pattern
from ownersagree.surveys import survey
from tests.examples import BAD_GIVE, PLAN, PROJECTS, START, boxes, grid, projects, system_of
from tests.helpers import AgreeTestCase
from tests.random_patterns import finest, random_pattern
from tests.test_surveys import random_system


def finest_lists(system):
    found = survey(system)
    return {table: found.patterns(table) for table in system.schema.tables()}


def plain_gap(system, lists):
    """Tells whether there is a gap, by all steps of all choices."""
    for name in system.names():
        for table in system.schema.tables():
            for case in cases(system[name], table):
                for chosen in itertools.product(*[lists[home] for home in pieces(system[name], table, case)]):
                    found = step(system[name], table, case, list(chosen))
                    if found is not None and not any(pattern <= found for pattern in lists[table]):
                        return True
    return False


class GapTest(AgreeTestCase):
    def check_gap(self, system, lists):
        """Checks a gap by its step, and returns it."""
        before = {table: [str(pattern) for pattern in patterns] for table, patterns in lists.items()}
        found = first_gap(system, lists)
        self.assertIsInstance(found, tuple)
        name, table, case, indexes, pattern = found
        self.assertIn(case, list(cases(system[name], table)))
        self.assertIsInstance(indexes, tuple)
        homes = pieces(system[name], table, case)
        self.assertEqual(len(indexes), len(homes))
        chosen = [lists[home][index] for home, index in zip(homes, indexes)]
        self.assertEqual(step(system[name], table, case, chosen), pattern)
        self.assertFalse(any(other <= pattern for other in lists[table]))
        self.assertEqual({key: [str(each) for each in value] for key, value in lists.items()}, before)
        return found

    def pattern(self, system, table, *blocks):
        return Pattern(system.schema.positions(table), [block.split(" ") for block in blocks])

    def test_the_finest_patterns_of_a_survey(self):
        for system in (projects(), projects(BAD_GIVE), boxes(), grid([3, 4]), system_of(PROJECTS)):
            self.assertIsNone(first_gap(system, finest_lists(system)))

    def test_one_pattern_missing(self):
        for system in (projects(), projects(BAD_GIVE), boxes(), grid([3, 4])):
            lists = finest_lists(system)
            for table in lists:
                for index in range(len(lists[table])):
                    rest = lists[table][:index] + lists[table][index + 1:]
                    self.check_gap(system, {**lists, table: rest})

    def test_empty_lists(self):
        system = projects()
        found = self.check_gap(system, {"project": [], "task": []})
        self.assertEqual(found[:4], ("start", "project", (("new", "p"),), ()))
        self.assertEqual(str(found[4]), "owner")
        self.assertIsNone(first_gap(system_of(PROJECTS, PLAN), {"project": [], "task": []}))
        self.assertIsNone(first_gap(system_of(PROJECTS), {"project": [], "task": []}))

    def test_patterns_that_are_finer_than_needed(self):
        for system in (projects(), boxes(), grid([3, 4])):
            self.assertIsNone(first_gap(system, {table: [finest(system.schema, table)]
                                                 for table in system.schema.tables()}))

    def test_a_gap_from_a_pattern_that_is_finer_than_needed(self):
        system = system_of("root t x y", "handler h\nnew n in t with me me", "handler k\nrow r in t\nset r.x = 'a'")
        whole = [self.pattern(system, "t", "x y"), self.pattern(system, "t", "x 'a'")]
        self.assertIsNone(first_gap(system, {"t": whole}))
        self.assertEqual(self.check_gap(system, {"t": whole[:1]})[3], (0,))
        self.assertEqual(self.check_gap(system, {"t": [self.pattern(system, "t", "x y 'a'")]})[:2], ("h", "t"))
        self.assertIsNone(first_gap(system, {"t": [finest(system.schema, "t")]}))

    def test_indexes_count_in_the_list_of_the_table(self):
        system = system_of("root a x\nroot b x\nroot c x y", "handler k\nrow r in a\nrow s in b\nneed r.x = 'p'\n"
                           "new n in c with r.x s.x")
        lists = {table: [self.pattern(system, table, f"x '{value}'") for value in values]
                 for table, values in (("a", "qp"), ("b", "rs"))}
        lists["c"] = [self.pattern(system, "c", "x 'p'", "y 'r'")]
        self.assertEqual(self.check_gap(system, lists)[:4], ("k", "c", (("new", "n"),), (1, 1)))
        lists["c"].append(self.pattern(system, "c", "x 'p'", "y 's'"))
        self.assertIsNone(first_gap(system, lists))

    def test_constants_that_the_system_does_not_have(self):
        system = system_of("root t x y", "handler k\nrow r in t\nset r.x = r.y")
        first, second = self.pattern(system, "t", "x 'zz'"), self.pattern(system, "t", "x y 'zz'")
        self.assertEqual(str(self.check_gap(system, {"t": [first]})[4]), "x = y")
        self.assertIsNone(first_gap(system, {"t": [first, self.pattern(system, "t", "x y")]}))
        self.assertIsNone(first_gap(system, {"t": [second]}))
        self.assertEqual(self.check_gap(system, {"t": [second, first]})[3], (1,))

    def test_the_same_pattern_twice(self):
        system = boxes()
        lists = finest_lists(system)
        self.assertIsNone(first_gap(system, {table: patterns * 2 for table, patterns in lists.items()}))

    def test_columns_that_follow(self):
        schema = "root a x\ntable b a x y\nfollow b x x"
        system = system_of(schema, "handler ma\nnew n in a with me", "handler mb\nrow r in a\nvalue u\n"
                           "new n in b under r with u u")
        lists = {"a": [finest(system.schema, "a")], "b": [finest(system.schema, "b")]}
        self.assertIsNone(first_gap(system, lists))
        lists["b"] = [self.pattern(system, "b", "x a.x")]
        self.assertIsNone(first_gap(system, lists))
        lists["b"] = [self.pattern(system, "b", "x y")]
        self.assertEqual(str(self.check_gap(system, lists)[4]), "x = a.x; y")

    def test_patterns_of_no_row(self):
        # The column that follows would have two values: no step begins there.
        system = system_of("root a x\ntable b a x\nfollow b x x", "handler k\nrow r in b\nset r.x = 'a'")
        self.assertIsNone(first_gap(system, {"a": [], "b": [self.pattern(system, "b", "x 'p'", "a.x 'q'")]}))

    def test_the_lists_stay_as_they_were(self):
        system = projects(BAD_GIVE)
        lists = finest_lists(system)
        before = {table: list(patterns) for table, patterns in lists.items()}
        first_gap(system, lists)
        self.assertEqual(list(lists), list(before))
        self.assertEqual(lists, before)

    def test_random_lists(self):
        counts = {True: 0, False: 0}
        for seed in range(60):
            chance, system = random_system(seed, extra=2)
            for _ in range(4):
                lists = finest_lists(system)
                for table in lists:
                    if chance.random() < 0.4:
                        lists[table] = lists[table][:-1] + [random_pattern(chance, system.schema, table)]
                    if chance.random() < 0.3:
                        lists[table] = lists[table] + [lists[table][0] & random_pattern(chance, system.schema, table)
                                                       for _ in lists[table][:1]]
                    chance.shuffle(lists[table])
                wanted = plain_gap(system, lists)
                counts[wanted] += 1
                if wanted:
                    self.check_gap(system, lists)
                else:
                    self.assertIsNone(first_gap(system, lists))
        self.assertGreater(min(counts.values()), 30, counts)

    def test_handlers_are_told_by_name(self):
        system = system_of(PROJECTS, START)
        self.assertEqual(first_gap(system, {"project": [], "task": []})[0], "start")


if __name__ == "__main__":
    unittest.main()
