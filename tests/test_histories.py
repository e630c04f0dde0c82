"""Points 43 and 46: the histories of derivations."""

import collections
import random
import unittest

from ownersagree.bases import Base
from ownersagree.errors import BadDerivation, TooLong
from ownersagree.histories import check_derivation, history
from ownersagree.surveys import survey
from tests.examples import BAD_GIVE, GIVE, PLAN, START, boxes, projects, system_of
from tests.helpers import AgreeTestCase
from tests.random_derivations import random_derivation
from tests.test_derivations import GIVE_LINE, OLD, PLAN_LINE, START_LINE, in_lists
from tests.test_surveys import random_system

MAKE = ("make", "t", (("new", "n"),), ())


class HistoryCase(AgreeTestCase):
    def check(self, system, lines):
        """Plays the history of a derivation, and returns its calls."""
        table, pattern, depth, size = check_derivation(system, lines)[-1]
        calls, address = history(system, lines)
        self.assertIsInstance(calls, list)
        self.assertEqual(len(calls), size)
        for name, me, rows, values in calls:
            self.assertIn(name, system)
            self.assertIsInstance(me, str)
            self.assertIsInstance(rows, tuple)
            self.assertIsInstance(values, tuple)
        self.assertTrue(all(isinstance(call, tuple) for call in calls))
        self.assertIsInstance(address, tuple)
        base = Base(system)
        for call in calls:
            base.run(call)
        self.assertIn(address, base)
        self.assertEqual(address[0], table)
        self.assertEqual(base.pattern_of(*address), pattern)
        self.assertEqual(base.depth_of(*address), depth)
        return calls


class HistoryTest(HistoryCase):
    def test_one_line(self):
        calls = self.check(projects(), [START_LINE])
        self.assertEqual([(name, rows, values) for name, _, rows, values in calls], [("start", (), ())])

    def test_the_example(self):
        calls = self.check(projects(BAD_GIVE), [START_LINE, PLAN_LINE, GIVE_LINE])
        self.assertEqual([(name, rows) for name, _, rows, _ in calls], [("start", ()), ("plan", (1,)), ("give", (1,))])
        self.assertEqual(history(projects(BAD_GIVE), in_lists([START_LINE, PLAN_LINE, GIVE_LINE]))[0], calls)

    def test_the_same_each_time_and_new_lists(self):
        system, lines = projects(BAD_GIVE), [START_LINE, PLAN_LINE, GIVE_LINE]
        first = history(system, lines)
        wanted = list(first[0])
        first[0].clear()
        self.assertEqual(history(system, lines)[0], wanted)

    def test_a_tuple(self):
        found = history(projects(), [START_LINE])
        self.assertIsInstance(found, tuple)
        self.assertEqual(found[1], ("project", 1))

    def test_lines_that_are_not_needed(self):
        self.check(projects(), [START_LINE, PLAN_LINE, START_LINE])
        self.check(projects(), [START_LINE, START_LINE, START_LINE, PLAN_LINE[:3] + ((1,),)])

    def test_each_source_has_rows_of_its_own(self):
        system = system_of("root t x y", "handler make\nvalue u\nnew n in t with me u",
                           "handler mix\nrow r in t\nrow s in t\nrow q in t\nset r.x = s.y\nset r.y = q.x")
        mix = ("mix", "t", (("old", ("r",)),), (0, 0, 0))
        calls = self.check(system, [MAKE, mix])
        self.assertEqual([name for name, _, _, _ in calls], ["make", "make", "make", "mix"])
        self.assertEqual(sorted(calls[-1][2]), [1, 2, 3])
        calls = self.check(system, [MAKE, mix, ("mix", "t", (("old", ("s", "q")),), (1, 1))])
        self.assertEqual(len(calls), 9)

    def test_guards_join_what_was_apart(self):
        system = system_of("root t x y", "handler make\nvalue u\nvalue v\nnew n in t with u v",
                           "handler same\nrow r in t\nrow s in t\nvalue u\nneed r.x = r.y\nneed s.y = 'a'\n"
                           "need u = s.x\n"
                           "need me = r.x\nset r.x = u\nset r.y = s.y")
        calls = self.check(system, [MAKE, ("same", "t", (("old", ("r",)),), (0, 0))])
        self.assertEqual(calls[0][3][0], calls[0][3][1])
        self.assertEqual(calls[1][3][1], "a")

    def test_new_rows_beside_others(self):
        system = system_of("root a x\ntable b a x\ntable c b x",
                           "handler make\nvalue u\nvalue v\nnew n in a with u\nnew m in a with v\n"
                           "new k in b under n with me\nnew l in b under m with u\nnew o in c under l with v",
                           "handler more\nrow r in c\nrow s in b\nnew n in a with r.x\nnew m in b under n with r.b.x\n"
                           "move r under m\nmove s under n")
        make = ("make", "c", (("new", "o"), ("new", "l"), ("new", "m")), ())
        other = ("make", "b", (("new", "k"), ("new", "n")), ())
        third = ("make", "b", (("new", "l"), ("new", "m")), ())
        self.check(system, [make])
        self.check(system, [other])
        for source in (1, 2):
            lines = [make, other, third, ("more", "c", (("old", ("r",)), ("new", "m"), ("new", "n")), (0, source))]
            self.check(system, lines)
            self.check(system, lines + [("more", "c", (OLD, ("old", ("s",)), ("new", "n")), (3, 3))])
            self.check(system, lines + [("more", "b", (("old", ("s",)), ("new", "n")), (source, 3))])

    def test_a_source_that_is_taken(self):
        system = system_of("root a x\ntable b a x", "handler ma\nvalue u\nnew n in a with u",
                           "handler mb\nrow p in a\nnew n in b under p with p.x",
                           "handler swap\nrow p in a\nrow q in b\nrow r in a\nneed q.x = p.x\nset r.x = q.a.x\ntake p\n"
                           "take q")
        lines = [("ma", "a", (("new", "n"),), ()), ("mb", "b", (("new", "n"), ("old", ("p",))), (0,)),
                 ("swap", "a", (("old", ("r",)),), (0, 0, 1)), ("mb", "b", (("new", "n"), ("old", ("p",))), (2,))]
        self.check(system, lines)

    def test_constants_of_the_system_are_no_free_values(self):
        constants = [f"'u{number}'" for number in range(30)] + [f"'v{number}'" for number in range(10)]
        needs = [f"need {one} = {one}" for one in constants]
        more = [f"handler c{at}\n" + "\n".join(needs[at:at + 8]) for at in range(0, len(needs), 8)]
        system = system_of("root t w x y z", "handler make\nvalue u\nvalue v\nvalue w\nnew n in t with me u v w",
                           "handler mix\nrow r in t\nrow s in t\nset r.x = s.y", *more)
        self.check(system, [MAKE])
        self.check(system, [MAKE, ("mix", "t", (("old", ("r",)),), (0, 0))])

    def test_callers_and_values_that_are_never_read(self):
        system = system_of("root t x", "handler make\nvalue u\nvalue v\nvalue w\nnew n in t with 'k'")
        self.assertEqual(len(self.check(system, [MAKE])[0][3]), 3)

    def test_random_derivations(self):
        counts = collections.Counter()
        for seed in range(100):
            chance, system = random_system(seed, extra=5)
            lines = random_derivation(chance, system, 12)
            for end in range(1, len(lines) + 1):
                if check_derivation(system, lines[:end])[-1][3] <= 100:
                    with self.subTest(seed=seed, end=end):
                        calls = self.check(system, lines[:end])
                        counts[len(calls) > 5] += 1
                        counts.update(line.split(" ")[0] for line in system[lines[end - 1][0]].deeds())
        for name in (True, False, "new", "set", "each", "move", "take"):
            self.assertGreater(counts[name], 15, counts)

    def test_derivations_of_surveys(self):
        for one in (projects(), projects(BAD_GIVE), boxes()):
            found = survey(one)
            for table in one.schema.tables():
                for pattern in found.patterns(table):
                    self.check(one, found.derivation(table, pattern))


class LongTest(HistoryCase):
    def line_of_calls(self, count):
        """A derivation whose last line has the size count."""
        step = ("step", "t", (("old", ("r",)),))
        return [MAKE] + [step + ((index,),) for index in range(count - 1)]

    def setUp(self):
        self.system = system_of("root t x y", "handler make\nnew n in t with me 'a'",
                                "handler step\nrow r in t\nvalue u\nset r.y = r.x\nset r.x = u",
                                "handler both\nrow r in t\nrow s in t\nset r.x = s.x",
                                "handler three\nrow r in t\nrow s in t\nrow q in t\nset r.x = s.x")

    def test_exactly_100(self):
        for count in (98, 99, 100):
            self.assertEqual(len(self.check(self.system, self.line_of_calls(count))), count)

    def test_beyond(self):
        for count in (101, 102, 150, 200):
            self.check_error(TooLong(count), history, self.system, self.line_of_calls(count))

    def test_exactly_100_with_several_sources(self):
        lines = self.line_of_calls(49)
        both = ("both", "t", (("old", ("r",)),))
        self.assertEqual(len(self.check(self.system, lines + [both + ((48, 48),)])), 99)
        lines = lines + [("step", "t", (("old", ("r",)),), (48,))]
        self.assertEqual(len(self.check(self.system, lines + [both + ((48, 49),)])), 100)
        self.check_error(TooLong(101), history, self.system, lines + [both + ((49, 49),)])

    def test_long_lines_before_a_short_last_one(self):
        self.assertEqual(len(self.check(self.system, self.line_of_calls(150) + [MAKE])), 1)

    def test_sizes_beyond_any_bound(self):
        lines = [MAKE] + [("three", "t", (("old", ("r",)),), (index,) * 3) for index in range(199)]
        size = check_derivation(self.system, lines)[-1][3]
        self.assertGreater(size, 3 ** 198)
        self.check_error(TooLong(size), history, self.system, lines)

    def test_errors_of_the_derivation_come_first(self):
        self.check_error(BadDerivation(150), history, self.system, self.line_of_calls(150) + [None])
        self.check_error(BadDerivation(0), history, self.system, [])


class PlayedTest(AgreeTestCase):
    def test_every_value_is_a_value(self):
        system = system_of("root project owner\ntable task project owner\nowner task owner", START, PLAN, GIVE)
        for name, me, _, values in history(system, [START_LINE, PLAN_LINE, GIVE_LINE])[0]:
            for value in (me, *values):
                self.assertRegex(value, "^[a-z0-9]{1,20}$")

    def test_histories_one_behind_the_other(self):
        # The rows of a history are its own wherever it begins.
        chance = random.Random(1)
        system = projects(BAD_GIVE)
        base = Base(system)
        for _ in range(5):
            calls, _ = history(system, [START_LINE, PLAN_LINE, GIVE_LINE][:chance.randrange(1, 4)])
            shift = len(base.numbers("project"))
            base.run_all([(name, me, tuple(row + shift for row in rows), values) for name, me, rows, values in calls])
        self.assertEqual(len(base.numbers("project")), 5)


if __name__ == "__main__":
    unittest.main()
