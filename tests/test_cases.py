"""Points 33 and 34: cases and their pieces."""

import collections
import inspect
import random
import unittest

from ownersagree.cases import cases, pieces
from ownersagree.errors import BadCase, UnknownName
from ownersagree.handlers import Handler
from ownersagree.schemas import Schema
from tests.helpers import AgreeTestCase, handler, teams
from tests.plain_steps import PlainSteps
from tests.random_systems import SCHEMAS, random_handler

OLD = ("old", ())


def old(*names):
    return ("old", names)


def new(name):
    return ("new", name)


class CasesTest(AgreeTestCase):
    def check(self, one, table, wanted):
        found = list(cases(one, table))
        self.assertEqual(len(found), len(wanted), found)
        self.assertEqual(set(found), set(wanted))

    def test_a_generator(self):
        self.assertTrue(inspect.isgeneratorfunction(cases))
        one = handler("handler h", "row p in project")
        first, second = cases(one, "project"), cases(one, "project")
        self.assertEqual([next(first), next(second)], [next(cases(one, "project"))] * 2)

    def test_unknown_table(self):
        for name in ("nope", "", "Task", "team.owner"):
            found = cases(handler("handler h", "row p in project"), name)
            self.check_error(UnknownName(0, name), next, found)
            self.check_error(UnknownName(0, name), list, cases(handler("handler h"), name))

    def test_nothing_but_a_name(self):
        for table in teams().tables():
            self.check(handler("handler h"), table, [])
            self.check(handler("handler h", "value u", "need u = me"), table, [])

    def test_a_row_parameter(self):
        one = handler("handler h", "row p in project", "set p.owner = me")
        self.check(one, "team", [])
        self.check(one, "note", [])
        self.check(one, "project", [(old("p"), OLD)])
        self.check(one, "task", [(OLD, old("p"), OLD)])
        self.check(one, "step", [(OLD, OLD, old("p"), OLD)])

    def test_several_row_parameters(self):
        one = handler("handler h", "row q in project", "row p in project", "row t in team")
        self.check(one, "team", [(old("t"),)])
        self.check(one, "project", [
            (low, high) for low in (OLD, old("q"), old("p"), old("q", "p")) for high in (OLD, old("t"))
            if (low, high) != (OLD, OLD)])

    def test_a_new_row(self):
        one = handler("handler h", "new t in team with me me", "new p in project under t with me")
        self.check(one, "team", [(new("t"),)])
        self.check(one, "project", [(new("p"), new("t"))])
        self.check(one, "task", [])

    def test_a_new_row_under_a_parameter(self):
        one = handler("handler h", "row p in project", "row q in project", "new t in task under p with me me")
        self.check(one, "project", [(old("p"), OLD), (old("q"), OLD), (old("p", "q"), OLD)])
        self.check(one, "task", [
            (new("t"), old("p"), OLD), (new("t"), old("p", "q"), OLD),
            (OLD, old("p"), OLD), (OLD, old("q"), OLD), (OLD, old("p", "q"), OLD)])

    def test_a_move(self):
        one = handler("handler h", "row t in task", "row p in project", "move t under p")
        self.check(one, "project", [(old("p"), OLD)])
        self.check(one, "task", [(old("t"), old("p"), OLD), (OLD, old("p"), OLD)])
        self.check(one, "step", [(OLD, old("t"), old("p"), OLD), (OLD, OLD, old("p"), OLD)])

    def test_a_move_under_a_new_row(self):
        one = handler("handler h", "row p in project", "new t in team with me me", "move p under t")
        self.check(one, "team", [(new("t"),)])
        self.check(one, "project", [(old("p"), new("t"))])
        self.check(one, "task", [(OLD, old("p"), new("t"))])

    def test_the_last_move_counts(self):
        one = handler("handler h", "row p in project", "row q in project", "row t in team", "new n in team with me me",
                      "move p under t", "move q under n")
        self.check(one, "project", [
            (old("p"), old("t")), (old("q"), new("n")), (old("p", "q"), new("n")), (OLD, old("t"))])
        two = handler("handler h", "row p in project", "row t in team", "row u in team", "move p under t",
                      "move p under u")
        self.check(two, "project", [
            (old("p"), old("u")), (old("p"), old("t", "u")), (OLD, old("t")), (OLD, old("u")), (OLD, old("t", "u"))])

    def test_a_row_that_is_taken(self):
        one = handler("handler h", "row p in project", "row t in task", "take p")
        self.check(one, "project", [])
        self.check(one, "task", [(old("t"), OLD, OLD)])
        two = handler("handler h", "row p in project", "new t in task under p with me me", "take p")
        self.check(two, "task", [])

    def test_a_row_that_is_moved_under_a_row_that_is_taken(self):
        one = handler("handler h", "row p in project", "row t in task", "move t under p", "take p")
        for table in teams().tables():
            self.check(one, table, [])

    def test_against_a_filter_over_all_tuples_of_levels(self):
        counts = collections.Counter()
        for seed in range(250):
            chance = random.Random(seed)
            schema = Schema.read(chance.choice(SCHEMAS))
            text = random_handler(chance, schema, "h")
            one, plain = Handler.read(schema, text), PlainSteps(schema.text, text)
            for table in schema.tables():
                with self.subTest(seed=seed, table=table):
                    wanted = plain.cases(table)
                    self.check(one, table, wanted)
                    counts[len(schema.chain_of(table))] += len(wanted)
                    for case in wanted:
                        counts.update(kind for kind, _ in case)
                        counts["moved"] += any(plain.mover(level) for level in case)
                        counts["under new"] += any(low[0] == "old" and high[0] == "new"
                                                   for low, high in zip(case, case[1:]))
                        self.assertEqual(pieces(one, table, case), plain.pieces(table, case))
                        counts[f"pieces {len(plain.pieces(table, case))}"] += 1
            counts.update(line.split(" ")[0] for line in one.deeds())
        for name in (1, 2, 3, 4, "new", "old", "moved", "under new", "set", "each", "move", "take", "pieces 0",
                     "pieces 1", "pieces 2", "pieces 3"):
            self.assertGreater(counts[name], 20, counts)


class PiecesTest(AgreeTestCase):
    def check(self, one, table, case, wanted):
        self.assertEqual(pieces(one, table, case), wanted)
        self.assertEqual(pieces(one, table, [[kind, list(named) if kind == "old" else named]
                                             for kind, named in case]), wanted)

    def test_no_pieces(self):
        one = handler("handler h", "new t in team with me me", "new p in project under t with me")
        self.check(one, "project", (new("p"), new("t")), [])

    def test_one_run(self):
        one = handler("handler h", "row p in project")
        self.check(one, "project", (old("p"), OLD), ["project"])
        self.check(one, "step", (OLD, OLD, old("p"), OLD), ["step"])

    def test_a_new_row_above_a_run(self):
        one = handler("handler h", "row p in project", "new t in team with me me", "move p under t")
        self.check(one, "task", (OLD, old("p"), new("t")), ["task"])

    def test_a_run_above_a_new_row(self):
        one = handler("handler h", "row p in project", "new t in task under p with me me")
        self.check(one, "task", (new("t"), old("p"), OLD), ["project"])

    def test_moved_rows_end_a_run(self):
        one = handler("handler h", "row t in task", "row p in project", "row m in team", "move t under p",
                      "move p under m")
        self.check(one, "step", (OLD, old("t"), old("p"), old("m")), ["step", "project", "team"])
        self.check(one, "task", (old("t"), old("p"), old("m")), ["task", "project", "team"])
        self.check(one, "task", (OLD, old("p"), old("m")), ["task", "team", "task"])

    def test_rows_that_no_level_names_in_the_order_of_the_lines(self):
        one = handler("handler h", "row x in team", "row p in project", "row s in step")
        self.check(one, "project", (old("p"), OLD), ["project", "team", "step"])
        self.check(one, "team", (old("x"),), ["team", "project", "step"])
        self.check(one, "step", (old("s"), OLD, OLD, OLD), ["step", "team", "project"])
        self.check(one, "step", (old("s"), OLD, old("p"), old("x")), ["step"])
        two = handler("handler h", "row s in step", "row p in project", "row x in team")
        self.check(two, "team", (old("x"),), ["team", "step", "project"])

    def test_names_that_are_parts_of_other_names(self):
        # The letters of the name of a new row are names of row parameters.
        one = handler("handler h", "row p in project", "row q in project", "row t in team",
                      "new pqt in task under p with me me")
        self.check(one, "task", (new("pqt"), old("p"), OLD), ["project", "project", "team"])
        self.check(one, "task", (new("pqt"), old("p", "q"), old("t")), ["project"])
        two = handler("handler h", "row n in note", "row e in team", "row w in project", "new new in note with me")
        self.check(two, "note", (new("new"),), ["note", "team", "project"])
        three = handler("handler h", "row old in project", "new o in team with me me", "move old under o")
        self.check(three, "project", (old("old"), new("o")), ["project"])

    def test_a_new_list(self):
        one = handler("handler h", "row p in project")
        pieces(one, "project", (old("p"), OLD)).append("x")
        self.check(one, "project", (old("p"), OLD), ["project"])


class NoCaseTest(AgreeTestCase):
    def setUp(self):
        self.one = handler(
            "handler h", "row p in project", "row q in project", "row t in team", "new n in task under p with me me",
            "new m in team with me me", "move q under m")

    def check(self, case, table="project"):
        self.check_error(BadCase(), pieces, self.one, table, case)

    def test_cases(self):
        for case in ((old("p"), OLD), (old("p"), old("t")), (old("q"), new("m")), (old("p", "q"), new("m")),
                     (OLD, old("t"))):
            pieces(self.one, "project", case)

    def test_too_many_or_too_few_levels(self):
        self.check(())
        self.check([])
        self.check((old("p"),))
        self.check((old("p"), OLD, OLD))
        self.check((OLD, OLD))
        self.check((OLD,), "team")

    def test_another_kind_of_level(self):
        for kind in ("row", "", "Old", "OLD", "news", None, 0, True, ("old",), ["old"], b"old"):
            self.check(((kind, ("p",)), OLD))
            self.check(((kind, ()), old("t")))
            self.check((old("q"), (kind, "m")))

    def test_a_new_level_of_the_kind_of_an_old_one(self):
        self.check((old("q"), ("old", "m")))
        self.check((old("q"), ("new", ("m",))))
        self.check((old("q"), ("new", ["m"])))
        self.check((old("q"), ("old", ("m",))))

    def test_wrong_names(self):
        self.check((old("p", "p"), OLD))
        self.check((old("q", "p"), new("m")))
        self.check((old("t"), OLD))
        self.check((old("p", "t"), OLD))
        self.check((old("p"), old("p")))
        self.check((old("x"), OLD))
        self.check((old("h"), OLD))
        self.check((old("project"), OLD))
        self.check((old("P"), OLD))
        self.check((old(""), OLD))
        self.check((old("p", None), OLD))
        self.check((old(None), OLD))
        self.check((old(("p",)), OLD))
        self.check((old(["p"]), OLD))
        self.check((old({}), OLD))
        self.check((new("x"), OLD))
        self.check((new("n"), OLD))
        self.check((new("p"), OLD))
        self.check((new("m"),), "project")

    def test_a_string_in_the_place_of_the_names(self):
        self.check((("old", "p"), OLD))
        self.check((("old", ""), old("t")))
        self.check((old("p"), ("old", "")))
        self.check((("old", "pq"), new("m")))
        two = handler("handler h", "row p in project", "row pq in project")
        for names in ("p", "pq"):
            self.check_error(BadCase(), pieces, two, "project", (("old", names), OLD))

    def test_something_else_in_the_place_of_the_names(self):
        for names in (None, 0, True, {}, {"p": 1}, {"p"}, b"p", object(), 1.5):
            self.check((("old", names), OLD))
            self.check((("new", names), OLD))
            self.check((old("q"), ("new", names)))

    def test_something_else_in_the_place_of_a_level(self):
        for level in (None, 0, 5, True, "old", "pq", b"ab", {}, {"old": 1, "p": 2}, {1, 2}, object(), (), ("old",),
                      ("old", ("p",), ()), ["old"], ("p", "old"), 1.5):
            self.check((level, OLD))
            self.check((old("p"), level))

    def test_something_else_in_the_place_of_a_case(self):
        for case in (None, 0, 7, True, "", "old", "ab", b"ab", {}, {"old": ("p",), "new": ()}, {1, 2}, object(), 1.5,
                     (None, None), [[], []]):
            self.check(case)

    def test_levels_that_do_not_stand_upon_each_other(self):
        self.check((old("q"), OLD))
        self.check((old("q"), old("t")))
        self.check((old("p", "q"), OLD))
        self.check((old("p"), new("m")))
        self.check((OLD, new("m")))
        self.check((new("n"), old("q"), new("m")), "task")
        self.check((new("n"), OLD, OLD), "task")
        self.check((OLD, new("n"), OLD), "task")

    def test_rows_that_are_taken(self):
        self.one = handler("handler h", "row p in project", "row t in team", "take p")
        self.check((old("p"), OLD))
        self.check((old("p"), old("t")))
        pieces(self.one, "project", (OLD, old("t")))

    def test_cases_of_another_handler(self):
        other = handler("handler h", "row x in project")
        self.check_error(BadCase(), pieces, other, "project", (old("p"), OLD))

    def test_an_unknown_table_comes_first(self):
        for case in (None, 5, (old("p"), OLD), "x"):
            for name in ("nope", "Project", ""):
                self.check_error(UnknownName(0, name), pieces, self.one, name, case)

    def test_all_tuples_that_are_no_cases(self):
        found = 0
        for seed in range(40):
            chance = random.Random(seed)
            schema = Schema.read(chance.choice(SCHEMAS))
            text = random_handler(chance, schema, "h")
            one, plain = Handler.read(schema, text), PlainSteps(schema.text, text)
            names = list(plain.params) + list(plain.news)
            levels = [new(name) for name in names] + [OLD] + [old(name) for name in names]
            levels += [old(low, high) for low in names for high in names]
            for table in schema.tables():
                wanted = set(plain.cases(table))
                for _ in range(60):
                    case = tuple(chance.choice(levels) for _ in plain.tables(table))
                    if case not in wanted:
                        self.check_error(BadCase(), pieces, one, table, case)
                        found += 1
        self.assertGreater(found, 5000)


if __name__ == "__main__":
    unittest.main()
