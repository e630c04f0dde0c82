"""Points 37, 39 to 42: surveys."""

import random
import time
import unittest

from ownersagree.cases import cases, pieces
from ownersagree.errors import OtherPlaces, OtherSchema, TooManyPatterns, UnknownName
from ownersagree.handlers import Handler
from ownersagree.patterns import Pattern
from ownersagree.schemas import Schema
from ownersagree.surveys import Survey, survey
from ownersagree.systems import System
from tests.examples import BAD_GIVE, GIVE, PLAN, PROJECTS, START, boxes, grid, grid_texts, projects, system_of
from tests.helpers import AgreeTestCase
from tests.plain_surveys import plain_layers, texts_of
from tests.random_patterns import random_pattern
from tests.random_systems import SCHEMAS, random_system_texts


def random_system(seed, extra=4):
    chance = random.Random(seed)
    schema = Schema.read(chance.choice(SCHEMAS))
    return chance, System(schema, [Handler.read(schema, text)
                                   for text in random_system_texts(chance, schema, extra)])


def texts(patterns):
    return [str(pattern) for pattern in patterns]


class LayersTest(AgreeTestCase):
    def test_the_example(self):
        found = survey(projects())
        self.assertIsInstance(found, Survey)
        self.assertEqual(texts(found.patterns("project")), ["owner"])
        self.assertEqual(texts(found.patterns("task")), ["owner = project.owner"])
        self.assertEqual(found.rounds, 2)
        self.assertEqual(found.listing(), ["project         1 owner", "task            2 owner = project.owner"])

    def test_the_bad_example(self):
        found = survey(projects(BAD_GIVE))
        self.assertEqual(found.rounds, 3)
        self.assertEqual([texts(found.patterns("task", depth=depth)) for depth in range(5)],
                         [[], [], ["owner = project.owner"], ["owner; project.owner"], ["owner; project.owner"]])
        self.assertEqual(found.listing(), ["project         1 owner", "task            3 owner; project.owner"])

    def test_the_system_is_told(self):
        system = projects()
        self.assertIs(survey(system).system, system)

    def test_no_handlers(self):
        found = survey(system_of(PROJECTS))
        self.assertEqual((found.rounds, found.listing()), (0, []))
        for table in ("project", "task"):
            self.assertEqual(found.patterns(table), [])
            self.assertEqual(found.patterns(table, depth=0), [])
            self.assertEqual(found.patterns(table, depth=3), [])

    def test_handlers_that_make_no_row(self):
        found = survey(system_of(PROJECTS, PLAN, GIVE, "handler nothing"))
        self.assertEqual((found.rounds, found.listing()), (0, []))

    def test_tables_without_patterns(self):
        found = survey(system_of(PROJECTS, START, "handler never\nrow p in project\nneed 'a' = 'b'\n"
                                                  "new t in task under p with me"))
        self.assertEqual((found.rounds, found.listing()), (1, ["project         1 owner"]))
        self.assertEqual(found.patterns("task"), [])

    def test_against_plain_rounds(self):
        most = 0
        for seed in range(70):
            _, system = random_system(seed)
            layers = [texts_of(layer) for layer in plain_layers(system)]
            found = survey(system)
            with self.subTest(seed=seed):
                self.assertEqual(found.rounds, len(layers) - 1)
                for table in system.schema.tables():
                    self.assertEqual(texts(found.patterns(table)), layers[-1][table])
                    for depth in range(len(layers) + 3):
                        wanted = layers[min(depth, len(layers) - 1)][table]
                        self.assertEqual(texts(found.patterns(table, depth=depth)), wanted)
                    most = max(most, len(layers[-1][table]))
        self.assertGreater(most, 4)

    def test_patterns_that_finer_ones_replace(self):
        found = survey(system_of("root t x y", "handler one\nnew n in t with me me",
                                 "handler two\nrow r in t\nvalue u\nset r.x = u",
                                 "handler three\nrow r in t\nneed r.x = 'a'\nset r.y = 'b'"))
        self.assertEqual([texts(found.patterns("t", depth=depth)) for depth in range(4)],
                         [[], ["x = y"], ["x; y"], ["x; y"]])

    def test_returned_lists_are_new(self):
        found = survey(projects())
        for get in (lambda: found.patterns("task"), lambda: found.patterns("task", depth=1),
                    lambda: found.patterns("task", depth=9), found.listing):
            wanted = [str(each) for each in get()]
            get().clear()
            get().append("x")
            self.assertEqual([str(each) for each in get()], wanted)

    def test_the_order_of_the_texts(self):
        found = survey(grid([3, 4]))
        self.assertEqual(texts(found.patterns("t")), sorted(texts(found.patterns("t"))))
        self.assertEqual(len(found.patterns("t")), 12)
        self.assertEqual(texts(found.patterns("t"))[:2], ["c0 = 'k0'; c1 = 'k1'", "c0 = 'k0'; c1 = 'k2'"])
        self.assertEqual(texts(found.patterns("t"))[-1], "c0 = c1 = 'k2'")
        self.assertEqual(texts(found.patterns("t", depth=1)), ["c0 = c1 = 'k0'"])

    def test_unknown_tables(self):
        found = survey(projects())
        for name in ("nope", "", "Task", "start"):
            self.check_error(UnknownName(0, name), found.patterns, name)
            self.check_error(UnknownName(0, name), found.patterns, name, depth=0)
            self.check_error(UnknownName(0, name), found.patterns, name, depth=9)

    def test_the_order_of_handlers_does_not_matter(self):
        for seed in range(40):
            chance, system = random_system(seed)
            handlers = [system[name] for name in system.names()]
            chance.shuffle(handlers)
            first, second = survey(system), survey(System(system.schema, handlers))
            self.assertEqual((first.listing(), first.rounds), (second.listing(), second.rounds))


class TooManyTest(AgreeTestCase):
    def test_exactly_40(self):
        for counts in ([4, 10], [2, 4, 5]):
            found = survey(grid(counts))
            self.assertEqual(len(found.patterns("t")), 40)
            self.assertEqual(found.rounds, 1 + len(counts))

    def test_41(self):
        more = "handler more\nnew n in t with 'k0' 'k0' 'z'"
        texts_of_it = [text.replace("row r in t", "row r in t\nneed r.c2 = 'k0'")
                       for text in grid_texts([4, 10, 1], "t")]
        self.assertEqual(len(survey(system_of("root t c0 c1 c2", *texts_of_it)).patterns("t")), 40)
        self.check_error(TooManyPatterns("t"), survey, system_of("root t c0 c1 c2", *texts_of_it, more))

    def test_many(self):
        self.check_error(TooManyPatterns("t"), survey, grid([6, 7]))
        self.check_error(TooManyPatterns("t"), survey, grid([4, 4, 4]))

    def test_41_in_a_layer_that_is_not_the_last_one(self):
        # One handler makes all patterns coarser than the one that it leaves, but only after layer 3 has 42 of them.
        late = ["handler free\nrow r in t\nrow s in t\nvalue u\nvalue v\nneed r.c0 = 'k5'\nneed r.c1 = 'k6'\n"
                "set s.c0 = u\nset s.c1 = v"]
        self.check_error(TooManyPatterns("t"), survey, grid([6, 7], *late))
        early = ["handler free\nrow r in t\nrow s in t\nvalue u\nvalue v\nset s.c0 = u\nset s.c1 = v"]
        self.assertEqual(survey(grid([6, 7], *early)).listing(), ["t               2 c0; c1"])

    def test_the_first_table_of_the_schema(self):
        # Rows of a and b get the same values by the same calls, so that both have 49 patterns in layer 3.
        start = "handler start\nnew n in a with 'k0' 'k0'\nnew m in b with 'k0' 'k0'"
        both = [f"handler s{column}x{number}\nrow r in a\nrow s in b\nset r.c{column} = 'k{number}'\n"
                f"set s.c{column} = 'k{number}'" for column in (0, 1) for number in range(1, 7)]
        for schema, wanted in (("root a c0 c1\nroot b c0 c1", "a"), ("root b c0 c1\nroot a c0 c1", "b")):
            self.check_error(TooManyPatterns(wanted), survey, system_of(schema, start, *both))

    def test_the_first_such_layer(self):
        # q has 49 patterns in layer 2, and p has 49 in layer 3.
        start = "handler start\nnew n in p with 'k0' 'k0'" + "".join(
            f"\nnew m{number} in q with 'k{number}' 'k{number}'" for number in range(7))
        slow = [f"handler s{column}x{number}\nrow r in p\nset r.c{column} = 'k{number}'"
                for column in (0, 1) for number in range(1, 7)]
        mixed = "handler mixed\nrow r in q\nrow s in q\nset r.c0 = s.c0"
        for schema in ("root p c0 c1\nroot q c0 c1", "root q c0 c1\nroot p c0 c1"):
            self.check_error(TooManyPatterns("q"), survey, system_of(schema, start, mixed, *slow))
            self.check_error(TooManyPatterns("p"), survey, system_of(schema, start, *slow))
            self.assertEqual(survey(system_of(schema, start)).rounds, 1)


class TimeTest(AgreeTestCase):
    def check(self, system, choices):
        begin = time.process_time()
        found = survey(system)
        self.assertLess(time.process_time() - begin, 10)
        counts = 0
        for name in system.names():
            for table in system.schema.tables():
                counts += self.choices(found, system[name], table)
        self.assertGreater(counts, choices)
        self.assertLess(counts, 20000)
        return found

    def choices(self, found, one, table):
        total = 0
        for case in cases(one, table):
            count = 1
            for home in pieces(one, table, case):
                count *= len(found.patterns(home))
            total += count
        return total

    def test_many_choices_of_a_handler_with_three_rows(self):
        mixed = "handler mixed\nrow p in t\nrow q in t\nrow r in t\nset p.c0 = q.c0\nset r.c1 = p.c1"
        found = self.check(grid([3, 3, 2], mixed), 18000)
        self.assertEqual(len(found.patterns("t")), 18)

    def test_many_choices_over_long_chains(self):
        schema = "\n".join(["root a w x y z", "table b a w x y z", "table c b w x y z", "table d c w x y z"])
        below = {"b": "a", "c": "b", "d": "c"}
        makers = ["handler ma\nvalue u\nnew n in a with me me u 'p'"] + [
            f"handler m{low}\nrow r in {high}\nnew n in {low} under r with r.w r.x me r.z"
            for low, high in below.items()]
        more = [f"handler s{table}{column}\nrow r in {table}\nset r.{column} = '{column}'"
                for table, column in (("a", "x"), ("b", "y"), ("c", "z"))]
        mixed = "handler mixed\nrow p in d\nrow q in d\nrow r in d\nneed p.w = q.w\nneed q.x = r.x\nset p.x = r.x"
        self.check(system_of(schema, *makers, *more, mixed), 10000)


class DepthTest(AgreeTestCase):
    def setUp(self):
        self.found = survey(projects(BAD_GIVE))

    def pattern(self, table, *blocks):
        return Pattern(self.found.system.schema.positions(table), [block.split(" ") for block in blocks])

    def test_depths(self):
        for table, blocks, wanted in (("project", [], 1), ("project", ["owner 'a'"], 1), ("task", [], 3),
                                      ("task", ["owner project.owner"], 2), ("task", ["owner 'a'"], 3),
                                      ("task", ["owner project.owner 'a'"], 2)):
            self.assertEqual(self.found.depth_of(table, self.pattern(table, *blocks)), wanted)

    def test_none(self):
        found = survey(projects())
        self.assertIsNone(found.depth_of("task", self.pattern("task")))
        self.assertIsNone(found.depth_of("task", self.pattern("task", "owner 'a'", "project.owner 'b'")))
        self.assertEqual(found.depth_of("task", self.pattern("task", "owner project.owner")), 2)
        self.assertIsNone(survey(system_of(PROJECTS)).depth_of("project", self.pattern("project")))

    def test_constants_of_the_system(self):
        found = survey(system_of("root t x", "handler h\nnew n in t with 'a'"))
        places = ["x"]
        self.assertEqual(found.depth_of("t", Pattern(places, [["x", "'a'"]])), 1)
        self.assertIsNone(found.depth_of("t", Pattern(places, [["x", "'b'"]])))
        self.assertIsNone(found.depth_of("t", Pattern(places, [])))

    def test_against_plain_rounds(self):
        counts = {True: 0, False: 0}
        for seed in range(35):
            chance, system = random_system(seed)
            layers = plain_layers(system)
            found = survey(system)
            for table in system.schema.tables():
                for _ in range(8):
                    pattern = random_pattern(chance, system.schema, table)
                    if layers[-1][table] and chance.random() < 0.5:
                        try:
                            pattern = pattern | chance.choice(layers[-1][table])
                        except ValueError:
                            continue
                    wanted = next((depth for depth, layer in enumerate(layers)
                                   if any(other <= pattern for other in layer[table])), None)
                    self.assertEqual(found.depth_of(table, pattern), wanted)
                    counts[wanted is None] += 1
        self.assertGreater(min(counts.values()), 100, counts)

    def test_errors(self):
        other = Pattern(["project.owner", "owner"], [])
        for pattern in (other, self.pattern("project"), Pattern(["x"], [])):
            self.check_error(OtherPlaces(), self.found.depth_of, "task", pattern)
            self.check_error(UnknownName(0, "nope"), self.found.depth_of, "nope", pattern)
        self.check_error(UnknownName(0, "nope"), self.found.depth_of, "nope", self.pattern("task"))


class AbleTest(AgreeTestCase):
    def check(self, system, **wanted):
        found = survey(system)
        self.assertEqual({name: found.able(name) for name in wanted}, wanted)

    def test_the_example(self):
        self.check(projects(), start=True, plan=True, give=True)

    def test_without_parameters(self):
        self.check(system_of(PROJECTS, "handler h", "handler never\nneed 'a' = 'b'", "handler a\nneed 'a' = 'a'",
                             "handler me\nneed me = 'a'", "handler both\nneed me = 'a'\nneed 'b' = me"),
                   h=True, never=False, a=True, me=True, both=False)

    def test_rows_that_can_not_exist(self):
        self.check(system_of(PROJECTS, PLAN, GIVE, "handler task\nrow t in task"), plan=False, give=False, task=False)
        self.check(system_of(PROJECTS, START, GIVE, "handler task\nrow t in task"), give=True, task=False)

    def test_guards(self):
        texts_of_it = [f"handler {name}\nrow t in team\nrow s in team\nvalue u\n" + "\n".join(needs)
                       for name, needs in (("never", ["need t.x = 'c'"]), ("a", ["need t.x = 'a'", "need s.x = 'b'"]),
                                           ("same", ["need t.x = s.x", "need t.x = 'a'", "need u = s.x"]),
                                           ("not",
                                            ["need t.x = s.x", "need t.x = 'a'", "need u = s.x", "need 'b' = u"]))]
        self.check(system_of("root team x", "handler ma\nnew t in team with 'a'", "handler mb\nnew t in team with 'b'",
                             *texts_of_it), never=False, a=True, same=True, **{"not": False})

    def test_columns_that_follow(self):
        schema = "root a x\ntable b a x\nfollow b x x"
        self.check(system_of(schema, "handler m\nnew p in a with 'p'\nnew q in b under p with 'q'",
                             "handler one\nrow r in b\nneed r.x = 'q'", "handler two\nrow r in b\nneed r.x = r.a.x"),
                   m=True, one=False, two=True)

    def test_the_same_row_for_two_parameters(self):
        self.check(system_of("root t x y", "handler m\nnew n in t with 'a' 'b'",
                             "handler h\nrow r in t\nrow s in t\nneed r.x = 'a'\nneed s.y = 'b'",
                             "handler no\nrow r in t\nrow s in t\nneed r.x = s.y"), h=True, no=False)

    def test_unknown_names(self):
        found = survey(projects())
        for name in ("nope", "", "task", "Start"):
            self.check_error(UnknownName(0, name), found.able, name)


class OrderTest(AgreeTestCase):
    def check(self, first, second, below, above):
        one, two = survey(first), survey(second)
        self.assertIs(one <= two, below)
        self.assertIs(two <= one, above)

    def test_surveys(self):
        self.check(projects(), projects(), True, True)
        self.check(projects(), projects(BAD_GIVE), True, False)
        self.check(system_of(PROJECTS), projects(), True, False)
        self.check(system_of(PROJECTS), system_of(PROJECTS, PLAN), True, True)

    def test_constants_that_only_one_system_has(self):
        schema = "root t x y"
        free = "handler h\nvalue u\nnew n in t with me u"
        one, two = "handler one\nnew n in t with me 'a'", "handler two\nnew n in t with me 'b'"
        self.check(system_of(schema, one), system_of(schema, two), False, False)
        self.check(system_of(schema, one), system_of(schema, free), True, False)
        self.check(system_of(schema, one, two), system_of(schema, one), False, True)

    def test_other_owner_and_follow_lines(self):
        schema = "root project owner\ntable task project owner"
        follow = f"{schema}\nfollow task owner owner"
        self.check(projects(), system_of(schema, START, PLAN, GIVE), True, True)
        self.check(system_of(follow, START, PLAN, BAD_GIVE), projects(), True, True)
        self.check(system_of(follow, START, PLAN, BAD_GIVE), projects(BAD_GIVE), True, False)
        self.check(system_of(schema, START), system_of(f"{schema}\nowner project owner", START), True, True)

    def test_other_schemas(self):
        schema = "root a x y\ntable b a z"
        for other in ("root a x\ntable b a z", "root a y x\ntable b a z", "root a x y\ntable b a z z2", "root a x y",
                      "root a x y\nroot b z", "root b x y\ntable a b z", "root a x y\ntable b a z\nroot c d",
                      "root c d\nroot a x y\ntable b a z"):
            for first, second in ((schema, other), (other, schema)):
                one, two = survey(system_of(first)), survey(system_of(second))
                self.check_error(OtherSchema(), lambda: one <= two)
        one, two = survey(system_of("root a x\nroot b x")), survey(system_of("root b x\nroot a x"))
        self.check_error(OtherSchema(), lambda: one <= two)

    def test_against_the_words_of_the_point(self):
        counts = {True: 0, False: 0}
        for seed in range(60):
            chance, system = random_system(seed)
            handlers = [system[name] for name in system.names()]
            first = survey(System(system.schema, [one for one in handlers if chance.random() < 0.8]))
            second = survey(System(system.schema, [one for one in handlers if chance.random() < 0.8]))
            wanted = all(any(other <= pattern for other in second.patterns(table))
                         for table in system.schema.tables() for pattern in first.patterns(table))
            self.assertIs(first <= second, wanted)
            counts[wanted] += 1
        self.assertGreater(min(counts.values()), 10, counts)

    def test_more_handlers_reach_no_less(self):
        for seed in range(40):
            _, system = random_system(seed)
            handlers = [system[name] for name in system.names()]
            self.assertLessEqual(survey(System(system.schema, handlers[:-2])), survey(system))


class ListingTest(AgreeTestCase):
    def test_columns(self):
        names = ["abcdefghijkl", "m"]
        found = survey(system_of(f"root {names[0]} x\nroot {names[1]} x", f"handler h\nnew n in {names[0]} with me",
                                 f"handler k\nnew n in {names[1]} with 'a'"))
        self.assertEqual(found.listing(), ["abcdefghijkl    1 x", "m               1 x = 'a'"])

    def test_the_order_of_the_tables(self):
        found = survey(boxes())
        self.assertEqual(found.listing(), ["box             1 a = b; c", "box             1 a; b = c",
                                           "link            2 x = y = box.a = box.b = box.c"])
        turned = survey(system_of("root z x\nroot a x", "handler h\nnew n in a with me\nnew m in z with me"))
        self.assertEqual([line.split(" ")[0] for line in turned.listing()], ["z", "a"])

    def test_against_the_words_of_the_point(self):
        for seed in range(30):
            _, system = random_system(seed)
            found = survey(system)
            self.assertEqual(found.listing(), [
                table.ljust(12) + " " + str(found.depth_of(table, pattern)).rjust(4) + " " + str(pattern)
                for table in system.schema.tables() for pattern in found.patterns(table)])

    def test_two_digits(self):
        found = survey(system_of("root t x", "handler start\nnew n in t with 's0'", *[
            f"handler step{number}\nrow r in t\nneed r.x = 's{number}'\nset r.x = 's{number + 1}'"
            for number in range(11)]))
        self.assertEqual(found.rounds, 12)
        self.assertIn("t               1 x = 's0'", found.listing())
        self.assertIn("t               9 x = 's8'", found.listing())
        self.assertIn("t              12 x = 's11'", found.listing())


if __name__ == "__main__":
    unittest.main()
