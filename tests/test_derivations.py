"""Points 43 to 45: derivations."""

import collections
import copy
import random
import unittest

from ownersagree.cases import pieces, step
from ownersagree.errors import BadDerivation, NotReachable, OtherPlaces, UnknownName
from ownersagree.histories import check_derivation, history
from ownersagree.patterns import Pattern
from ownersagree.surveys import survey
from tests.examples import BAD_GIVE, PROJECTS, START, boxes, projects, system_of
from tests.helpers import AgreeTestCase
from tests.random_derivations import random_derivation
from tests.random_patterns import random_pattern
from tests.test_surveys import random_system

START_LINE = ("start", "project", (("new", "p"),), ())
PLAN_LINE = ("plan", "task", (("new", "t"), ("old", ("p",))), (0,))
GIVE_LINE = ("give", "task", (("old", ()), ("old", ("p",))), (1,))
OLD = ("old", ())


def in_lists(value):
    """Returns a value in which all tuples are lists."""
    return [in_lists(member) for member in value] if isinstance(value, (tuple, list)) else value


class SurveyTest(AgreeTestCase):
    """Point 45: the derivations of a survey."""

    def pattern(self, found, table, *blocks):
        return Pattern(found.system.schema.positions(table), [block.split(" ") for block in blocks])

    def check(self, found, table, pattern):
        lines = found.derivation(table, pattern)
        told = check_derivation(found.system, lines)
        self.assertEqual(told[-1][0], table)
        self.assertLessEqual(told[-1][1], pattern)
        self.assertEqual(told[-1][2], found.depth_of(table, pattern))
        seen = [(line[0], str(line[1])) for line in told]
        self.assertEqual(len(seen), len(set(seen)))
        for line in lines:
            self.assertIsInstance(line, tuple)
            self.assertIsInstance(line[2], tuple)
            self.assertIsInstance(line[3], tuple)
        return lines

    def test_the_example(self):
        found = survey(projects(BAD_GIVE))
        lines = self.check(found, "task", self.pattern(found, "task"))
        self.assertEqual(lines, [START_LINE, PLAN_LINE, GIVE_LINE])
        self.assertEqual(self.check(found, "task", self.pattern(found, "task", "owner project.owner 'x'")), lines[:2])
        self.assertEqual(self.check(found, "project", self.pattern(found, "project", "owner 'x'")), lines[:1])

    def test_a_new_list(self):
        found = survey(projects())
        pattern = self.pattern(found, "project")
        found.derivation("project", pattern).append("x")
        self.assertEqual(found.derivation("project", pattern), [START_LINE])

    def test_all_patterns(self):
        for seed in range(60):
            chance, system = random_system(seed)
            found = survey(system)
            for table in system.schema.tables():
                for depth in range(1, found.rounds + 1):
                    for pattern in found.patterns(table, depth=depth):
                        self.check(found, table, pattern)
                        try:
                            coarser = pattern | random_pattern(chance, system.schema, table)
                        except ValueError:
                            continue
                        self.check(found, table, coarser)

    def test_errors(self):
        found = survey(projects())
        task, project = self.pattern(found, "task"), self.pattern(found, "project")
        self.check_error(UnknownName(0, "nope"), found.derivation, "nope", task)
        self.check_error(OtherPlaces(), found.derivation, "task", project)
        self.check_error(OtherPlaces(), found.derivation, "project", task)
        self.check_error(OtherPlaces(), found.derivation, "task", Pattern(["project.owner", "owner"], []))
        self.check_error(NotReachable(), found.derivation, "task", task)
        empty = survey(system_of(PROJECTS))
        self.check_error(NotReachable(), empty.derivation, "project", self.pattern(empty, "project", "owner 'x'"))


class CheckTest(AgreeTestCase):
    def told(self, system, lines):
        return [(table, str(pattern), depth, size) for table, pattern, depth, size in check_derivation(system, lines)]

    def test_each_line(self):
        self.assertEqual(self.told(projects(BAD_GIVE), [START_LINE, PLAN_LINE, GIVE_LINE]), [
            ("project", "owner", 1, 1), ("task", "owner = project.owner", 2, 2),
            ("task", "owner; project.owner", 3, 3)])

    def test_patterns_are_patterns(self):
        told = check_derivation(projects(), [START_LINE])
        self.assertIsInstance(told, list)
        self.assertIsInstance(told[0], tuple)
        self.assertEqual(told[0][1], Pattern(["owner"], []))

    def test_sizes_count_each_source_as_often_as_it_is_named(self):
        system = system_of("root t x y", "handler make\nvalue u\nnew n in t with me u",
                           "handler mix\nrow r in t\nrow s in t\nrow q in t\nset r.x = s.y\nset r.y = q.x")
        make = ("make", "t", (("new", "n"),), ())
        mix = ("mix", "t", (("old", ("r",)),), (0, 0, 0))
        more = ("mix", "t", (("old", ("r",)),), (1, 0, 1))
        same = ("mix", "t", (("old", ("r", "s", "q")),), (2,))
        last = ("mix", "t", (("old", ("s", "q")),), (3, 0))
        self.assertEqual([line[2:] for line in self.told(system, [make, mix, more, same, last])],
                         [(1, 1), (2, 4), (3, 10), (4, 11), (5, 13)])

    def test_lines_that_are_not_needed(self):
        self.assertEqual([line[2:] for line in self.told(projects(), [START_LINE, START_LINE, PLAN_LINE, START_LINE])],
                         [(1, 1), (1, 1), (2, 2), (1, 1)])

    def test_lists_in_the_place_of_tuples(self):
        system = projects(BAD_GIVE)
        lines = [START_LINE, PLAN_LINE, GIVE_LINE]
        wanted = self.told(system, lines)
        self.assertEqual(self.told(system, in_lists(lines)), wanted)
        self.assertEqual(self.told(system, [list(line) for line in lines]), wanted)
        self.assertEqual(self.told(system,
                                   [(name, table, case, list(sources)) for name, table, case, sources in lines]),
                         wanted)
        self.assertEqual(self.told(system, [(name, table, in_lists(case), sources)
                                            for name, table, case, sources in lines]), wanted)

    def test_the_lines_stay_as_they_were(self):
        system = projects(BAD_GIVE)
        for lines in ([START_LINE, PLAN_LINE, GIVE_LINE], in_lists([START_LINE, PLAN_LINE, GIVE_LINE])):
            before = copy.deepcopy(lines)
            check_derivation(system, lines)
            history(system, lines)
            self.assertEqual(lines, before)

    def test_a_new_list(self):
        system, lines = projects(), [START_LINE, PLAN_LINE]
        check_derivation(system, lines).clear()
        self.assertEqual(len(check_derivation(system, lines)), 2)

    def test_against_steps(self):
        counts = collections.Counter()
        for seed in range(60):
            chance, system = random_system(seed)
            lines = random_derivation(chance, system, 15)
            if not lines:
                continue
            told = check_derivation(system, lines)
            for index, (name, table, case, sources) in enumerate(lines):
                chosen = [told[source] for source in sources]
                self.assertEqual([line[0] for line in chosen], pieces(system[name], table, case))
                wanted = step(system[name], table, case, [line[1] for line in chosen])
                self.assertEqual(told[index], (table, wanted, 1 + max([line[2] for line in chosen], default=0),
                                               1 + sum(line[3] for line in chosen)))
                counts[len(sources)] += 1
        for count in range(4):
            self.assertGreater(counts[count], 10, counts)

    def test_two_hundred_lines_of_any_size(self):
        system = system_of("root t x", "handler make\nnew n in t with me",
                           "handler mix\nrow r in t\nrow s in t\nrow q in t\nset r.x = s.x")
        lines = [("make", "t", (("new", "n"),), ())] + [
            ("mix", "t", (("old", ("r",)),), (index, index, index)) for index in range(199)]
        told = check_derivation(system, lines)
        size = 1
        for line in told[1:]:
            size = 3 * size + 1
        self.assertEqual(told[-1], ("t", Pattern(["x"], []), 200, size))


class WrongTest(AgreeTestCase):
    def setUp(self):
        self.system = projects(BAD_GIVE)

    def check(self, index, lines):
        self.check_error(BadDerivation(index), check_derivation, self.system, lines)
        self.check_error(BadDerivation(index), history, self.system, lines)

    def check_line(self, line):
        """Checks that a line is wrong wherever it stands."""
        self.check(2, [START_LINE, PLAN_LINE, line])
        self.check(2, [START_LINE, PLAN_LINE, line, GIVE_LINE])
        self.check(2, [START_LINE, PLAN_LINE, line, line, None])
        self.check(0, [line, None])

    def test_the_empty_list(self):
        self.check(0, [])
        self.check(0, ())

    def test_lines_of_any_kind(self):
        for line in (None, 0, True, "give", "", b"give", {}, {1: 2, 3: 4, 5: 6, 7: 8}, object(), (), [], 1.5,
                     {1, 2, 3, 4},
                     GIVE_LINE[:3], GIVE_LINE + ((),), [GIVE_LINE], (START_LINE, PLAN_LINE, GIVE_LINE)):
            self.check_line(line)

    def test_unknown_handlers(self):
        for name in ("nope", "", "Give", "task", "give ", None, 0, True, ("give",), ["give"], {}, b"give", object()):
            self.check_line((name,) + GIVE_LINE[1:])

    def test_unknown_tables(self):
        for table in ("nope", "", "Task", "give", None, 0, True, ("task",), ["task"], {}, b"task", object()):
            self.check_line(GIVE_LINE[:1] + (table,) + GIVE_LINE[2:])

    def test_no_cases(self):
        for case in (None, 0, True, "", "ab", b"ab", {}, object(), (), (OLD,), (OLD, OLD), (OLD, ("old", "p")),
                     (OLD, ("new", "p")), (OLD, ("old", ("u",))), (OLD, ("old", ("p", "p"))), (("old", ("p",)), OLD),
                     (OLD, ("old", ("p",)), OLD), (OLD, ("old", (None,))), (OLD, ("old", ({},))), (OLD, None),
                     (OLD, ("old", None)), (OLD, (None, ("p",))), (OLD, ("old", ("p",), ())), ("old", "old"),
                     PLAN_LINE[2]):
            self.check_line(GIVE_LINE[:2] + (case,) + GIVE_LINE[3:])

    def test_a_case_of_another_table(self):
        self.check_line(GIVE_LINE[:2] + ((("old", ("p",)),),) + GIVE_LINE[3:])
        self.check_line(("give", "project") + GIVE_LINE[2:])

    def test_the_number_of_sources(self):
        for sources in ((), (1, 1), (1, 0), (0, 1), (1, None), [], [1, 1], (1, 1, 1)):
            self.check_line(GIVE_LINE[:3] + (sources,))
        self.check_line(START_LINE[:3] + ((0,),))

    def test_sources_of_any_kind(self):
        for sources in (None, 1, True, "", "1", b"\x01", {}, {1: 1}, {1}, object(), 1.0, "\x01"):
            self.check_line(GIVE_LINE[:3] + (sources,))
        for sources in ("", b"", {}, None, set(), 0):
            self.check(1, [START_LINE, START_LINE[:3] + (sources,)])

    def test_members_of_sources_of_any_kind(self):
        for source in (None, "1", "", b"1", 1.0, True, False, (1,), [1], {}, object(), -1, -2, 2, 3, 99, 10 ** 30,
                       -10 ** 30):
            self.check_line(GIVE_LINE[:3] + ((source,),))
            self.check_line(GIVE_LINE[:3] + ([source],))

    def test_true_is_no_source(self):
        self.check(2, [START_LINE, PLAN_LINE, GIVE_LINE[:3] + ((True,),)])
        self.check(1, [START_LINE, PLAN_LINE[:3] + ((False,),)])

    def test_negative_sources(self):
        self.check(1, [START_LINE, PLAN_LINE[:3] + ((-1,),)])
        self.check(2, [START_LINE, PLAN_LINE, GIVE_LINE[:3] + ((-1,),)])

    def test_the_line_itself_and_later_lines(self):
        self.check(2, [START_LINE, PLAN_LINE, GIVE_LINE[:3] + ((2,),)])
        self.check(2, [START_LINE, PLAN_LINE, GIVE_LINE[:3] + ((3,),), PLAN_LINE])
        self.check(0, [PLAN_LINE, START_LINE])
        self.check(0, [GIVE_LINE[:1] + ("project", (("old", ("p",)),), (0,)), START_LINE])

    def test_a_line_of_another_table(self):
        self.check(2, [START_LINE, PLAN_LINE, GIVE_LINE[:3] + ((0,),)])
        self.check(2, [START_LINE, PLAN_LINE, PLAN_LINE[:3] + ((1,),)])

    def test_a_step_that_returns_none(self):
        self.system = system_of(PROJECTS, START, "handler a\nrow p in project\nset p.owner = 'a'",
                                "handler b\nrow p in project\nneed p.owner = 'b'", "handler no\nneed 'a' = 'b'\n"
                                "new n in project with me")
        self.check(0, [("no", "project", (("new", "n"),), ())])
        lines = [START_LINE, ("a", "project", (("old", ("p",)),), (0,)), ("b", "project", (("old", ("p",)),), (0,))]
        self.assertEqual(len(check_derivation(self.system, lines)), 3)
        self.check(3, lines + [("b", "project", (("old", ("p",)),), (1,)), None])
        self.assertEqual(len(check_derivation(self.system, lines + [("a", "project", (("old", ("p",)),), (2,))])), 4)

    def test_the_first_wrong_line(self):
        self.check(0, [None, START_LINE, None])
        self.check(1, [START_LINE, None, PLAN_LINE])
        self.check(1, [START_LINE, GIVE_LINE, None])

    def test_random_derivations_with_a_wrong_member(self):
        for seed in range(40):
            chance, system = random_system(seed)
            lines = random_derivation(chance, system, 8)
            for index, line in enumerate(lines):
                for member in range(4):
                    wrong = list(line)
                    wrong[member] = chance.choice([None, "nope", 7, (99,), {}])
                    self.check_error(BadDerivation(index), check_derivation, system,
                                     lines[:index] + [tuple(wrong)] + lines[index + 1:])


class BoxesTest(AgreeTestCase):
    def test_patterns_of_a_line_may_be_coarser_than_needed(self):
        system = boxes()
        lines = [("left", "box", (("new", "n"),), ()), ("right", "box", (("new", "n"),), ()),
                 ("copy", "link", (("new", "n"), ("old", ("p",))), (1,))]
        told = check_derivation(system, lines)
        self.assertEqual([str(line[1]) for line in told],
                         ["a = b; c", "a; b = c", "x = y = box.a = box.b = box.c"])


if __name__ == "__main__":
    unittest.main()
