"""Point 38: what a survey tells of the rows after all histories."""

import random
import unittest

from ownersagree.bases import Base
from ownersagree.cases import cases
from ownersagree.histories import check_derivation, history
from ownersagree.patterns import Pattern
from ownersagree.surveys import survey
from ownersagree.systems import System
from tests.examples import BAD_GIVE, boxes, projects
from tests.plain_surveys import plain_layers
from tests.random_derivations import play_randomly
from tests.test_surveys import random_system

VALUES = ["a", "b", "c", "d", "me"]


class PromiseTest(unittest.TestCase):
    def check_rows(self, found, base):
        """Checks that each row has a pattern which its depth allows; returns how many rows need their depth."""
        needed = 0
        for table in base.system.schema.tables():
            for number in base.numbers(table):
                pattern, depth = base.pattern_of(table, number), base.depth_of(table, number)
                least = found.depth_of(table, pattern)
                self.assertIsNotNone(least)
                self.assertLessEqual(least, depth)
                self.assertTrue(any(other <= pattern for other in found.patterns(table, depth=depth)))
                needed += least == depth
        return needed

    def test_random_histories(self):
        calls = needed = 0
        for seed in range(120):
            chance, system = random_system(seed)
            with self.subTest(seed=seed):
                found = survey(system)
                base = Base(system)
                for _ in range(4):
                    calls += len(play_randomly(chance, base, VALUES, 25))
                    needed += self.check_rows(found, base)
        self.assertGreater(calls, 3000)
        self.assertGreater(needed, 500)

    def test_calls_of_handlers_that_are_not_able(self):
        # A handler that no history allows is never called, one that some history allows can be called.
        for seed in range(60):
            chance, system = random_system(seed)
            found = survey(system)
            base = Base(system)
            called = {call[0] for call in play_randomly(chance, base, VALUES, 150)}
            for name in called:
                self.assertTrue(found.able(name))
            for name in system.names():
                changed = {table for table in system.schema.tables() if list(cases(system[name], table))}
                if not found.able(name) and changed:
                    rest = System(system.schema, [system[other] for other in system.names() if other != name])
                    self.assertEqual(survey(rest).listing(), found.listing())

    def test_each_pattern_of_each_layer_is_reached(self):
        lines = 0
        for seed in range(60):
            _, system = random_system(seed)
            with self.subTest(seed=seed):
                found = survey(system)
                for depth, layer in enumerate(plain_layers(system)):
                    for table, patterns in layer.items():
                        for pattern in patterns:
                            if found.depth_of(table, pattern) == depth:
                                self.check_reached(found, table, pattern, depth)
                                lines += 1
        self.assertGreater(lines, 500)

    def check_reached(self, found, table, pattern, depth):
        derivation = found.derivation(table, pattern)
        told = check_derivation(found.system, derivation)
        self.assertEqual((told[-1][0], told[-1][1], told[-1][2]), (table, pattern, depth))
        if told[-1][3] <= 100:
            calls, address = history(found.system, derivation)
            base = Base(found.system)
            base.run_all(calls)
            self.assertEqual((address[0], base.pattern_of(*address), base.depth_of(*address)), (table, pattern, depth))

    def test_fewer_calls_than_the_depth(self):
        # A history with fewer than n calls never leaves a row with a pattern that needs layer n.
        for seed in range(60):
            chance, system = random_system(seed)
            found = survey(system)
            for _ in range(10):
                base = Base(system)
                for count, call in enumerate(play_randomly(chance, Base(system), VALUES, 30), start=1):
                    base.run(call)
                    for table in system.schema.tables():
                        for number in base.numbers(table):
                            self.assertLessEqual(found.depth_of(table, base.pattern_of(table, number)), count)

    def test_blocks_may_be_joined_with_other_constants(self):
        found = survey(projects())
        places = found.system.schema.positions("task")
        base = Base(found.system)
        base.run_all([("start", "x", (), ()), ("plan", "x", (1,), ())])
        pattern = Pattern(places, [places + ["'x'"]])
        self.assertEqual(found.depth_of("task", pattern), 2)
        self.assertLessEqual(base.pattern_of("task", 1), pattern)

    def test_the_examples(self):
        found = survey(boxes())
        base = Base(found.system)
        chance = random.Random(7)
        play_randomly(chance, base, ["a", "b"], 200)
        self.assertGreater(self.check_rows(found, base), 10)
        for number in base.numbers("link"):
            self.assertEqual(str(base.pattern_of("link", number)), "x = y = box.a = box.b = box.c")
        self.assertGreater(len(base.numbers("link")), 5)
        found = survey(projects(BAD_GIVE))
        base = Base(found.system)
        play_randomly(chance, base, ["a", "b"], 100)
        self.check_rows(found, base)


if __name__ == "__main__":
    unittest.main()
