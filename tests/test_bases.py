"""Points 2, 11, 22, 23 and 25 to 28: what calls do."""

import unittest

from ownersagree.bases import Base
from ownersagree.patterns import Pattern
from ownersagree.schemas import Schema
from tests.helpers import AgreeTestCase, state_of, system

# A chain of four tables; each column x follows the one above, and d.z follows a column that follows.
CHAIN = "\n".join([
    "root a x y", "table b a x y", "table c b x y", "table d c x z",
    "follow d z y", "follow d x x", "follow c x x", "follow b x x", "follow c y x",
])


def chain_system(*handlers):
    return system(*handlers, schema=Schema.read(CHAIN))


def depths(base, table):
    return [base.depth_of(table, number) for number in base.numbers(table)]


def values(base, table, position):
    return [base[table, number][position] for number in base.numbers(table)]


class EmptyTest(AgreeTestCase):
    def test_a_base_is_created_empty(self):
        made = system(("handler h",))
        base = Base(made)
        self.assertIs(base.system, made)
        self.assertEqual(len(base), 0)
        self.assertEqual([base.numbers(table) for table in made.schema.tables()], [[]] * 6)
        self.assertNotIn(("team", 1), base)

    def test_two_bases_of_one_system(self):
        made = system(("handler h", "new n in note with me"))
        first, second = Base(made), Base(made)
        first.call("h", "ann")
        self.assertEqual((len(first), len(second)), (1, 0))
        self.assertEqual(second.call("h", "bob"), [("note", 1)])
        self.assertEqual(first["note", 1]["text"], "ann")


class NumbersTest(AgreeTestCase):
    def setUp(self):
        self.base = Base(system(
            ("handler note", "new n in note with me"),
            ("handler three", "new a in note with me", "new b in team with me me", "new c in note with me"),
            ("handler drop", "row x in note", "take x"),
            ("handler never", "need 'a' = 'b'", "new n in note with me"),
        ))

    def test_rows_are_numbered_from_1_for_each_table(self):
        self.assertEqual(self.base.run(("note", "ann", (), ())), [("note", 1)])
        self.assertEqual(self.base.run(("three", "ann", (), ())), [("note", 2), ("team", 1), ("note", 3)])
        self.assertEqual(self.base.numbers("note"), [1, 2, 3])
        self.assertEqual(self.base.numbers("team"), [1])

    def test_a_number_is_never_used_again(self):
        for _ in range(3):
            self.base.call("note", "ann")
        self.base.call("drop", "ann", 3)
        self.base.call("drop", "ann", 1)
        self.assertEqual(self.base.numbers("note"), [2])
        self.assertEqual(self.base.call("note", "ann"), [("note", 4)])
        self.base.call("drop", "ann", 4)
        self.assertEqual(self.base.put("note", None, ["a"]), 5)
        self.assertEqual(self.base.call("note", "ann"), [("note", 6)])
        self.assertEqual(self.base.numbers("note"), [2, 5, 6])

    def test_a_refused_call_uses_up_no_number(self):
        for _ in range(3):
            with self.assertRaises(ValueError):
                self.base.call("never", "ann")
        self.assertEqual(self.base.call("note", "ann"), [("note", 1)])

    def test_what_run_returns(self):
        made = self.base.run(("three", "ann", (), ()))
        self.assertIs(type(made), list)
        self.assertEqual([type(address) for address in made], [tuple] * 3)
        made.clear()
        self.assertEqual(len(self.base), 3)
        self.assertEqual(self.base.run(("drop", "ann", (1,), ())), [])

    def test_lists_and_tuples_of_rows_and_values(self):
        base = Base(system(("handler h", "row x in note", "value u", "set x.text = u")))
        base.put("note", None, ("a",))
        for rows, given in (((1,), ("b",)), ([1], ["c"]), ((1,), ["d"]), ([1], ("e",))):
            base.run(("h", "me", rows, given))
            self.assertEqual(base["note", 1]["text"], given[0])

    def test_arguments_are_not_changed(self):
        base = Base(system(("handler h", "row x in note", "value u", "set x.text = u")))
        base.put("note", None, ["a"])
        rows, given = [1], ["b"]
        base.run(("h", "me", rows, given))
        self.assertEqual((rows, given), ([1], ["b"]))
        rows.append(2)
        given.append("c")
        self.assertEqual(base["note", 1]["text"], "b")


class TermTest(AgreeTestCase):
    def test_each_kind_of_term(self):
        base = Base(system(("handler h", "row k in task", "value u", "value v",
                            "new a in team with me u", "new b in team with v 'open'",
                            "new c in team with k.state k.project.owner",
                            "new d in team with k.project.team.lead k.project.team.owner")))
        base.put("team", None, ["to", "tl"])
        base.put("project", 1, ["po"])
        base.put("task", 1, ["ko", "ks"])
        self.assertEqual(base.run(("h", "ann", (1,), ("u1", "v1"))), [("team", n) for n in (2, 3, 4, 5)])
        self.assertEqual([(base["team", n]["owner"], base["team", n]["lead"]) for n in (2, 3, 4, 5)],
                         [("ann", "u1"), ("v1", "open"), ("ks", "po"), ("tl", "to")])

    def test_values_that_look_like_names_and_constants(self):
        base = Base(system(("handler h", "value u", "need u = me", "new n in team with u 'u'")))
        base.run(("h", "me", (), ("me",)))
        base.run(("h", "u", (), ("u",)))
        self.assertEqual(values(base, "team", "owner"), ["me", "u"])
        self.assertEqual(values(base, "team", "lead"), ["u", "u"])

    def test_terms_are_read_before_the_call(self):
        base = Base(system(("handler swap", "row t in team", "row p in project",
                            "set t.owner = t.lead", "set t.lead = t.owner", "set p.owner = p.team.owner",
                            "move p under t", "new n in team with p.owner p.team.lead",
                            "each project below n sets owner = t.owner")))
        base.put("team", None, ["a", "b"])
        base.put("team", None, ["c", "d"])
        base.put("project", 2, ["e"])
        base.run(("swap", "me", (1, 1), ()))
        self.assertEqual((base["team", 1]["owner"], base["team", 1]["lead"]), ("b", "a"))
        self.assertEqual((base["project", 1]["owner"], base["project", 1].parent), ("c", 1))
        self.assertEqual((base["team", 3]["owner"], base["team", 3]["lead"]), ("e", "d"))

    def test_guards_are_read_before_the_call(self):
        base = Base(system(("handler h", "row x in note", "need x.text = 'a'", "set x.text = 'b'")))
        base.put("note", None, ["a"])
        base.call("h", "me", 1)
        self.assertEqual(base["note", 1]["text"], "b")


class StructureTest(AgreeTestCase):
    def setUp(self):
        self.base = Base(system(
            ("handler twice", "row p in project", "row s in team", "row t in team", "move p under s", "move p under t"),
            ("handler both", "row p in project", "row q in project", "row t in team", "new n in team with me me",
             "move p under n", "move q under t"),
            ("handler deep", "row t in team", "new p in project under t with me", "new k in task under p with me 'a'",
             "new l in task under p with me 'b'", "new s in step under l with me", "new m in team with me me"),
            ("handler lift", "row k in task", "row s in step", "new t in team with me me",
             "new p in project under t with me", "move k under p", "new l in task under p with me me",
             "move s under l"),
        ))
        for owner in "abc":
            self.base.put("team", None, [owner, owner])
        self.base.put("project", 1, ["a"])

    def test_a_row_that_is_moved_twice(self):
        self.base.call("twice", "me", 1, 2, 3)
        self.assertEqual(self.base["project", 1].parent, 3)
        self.base.call("twice", "me", 1, 3, 2)
        self.assertEqual(self.base["project", 1].parent, 2)

    def test_a_row_that_is_passed_for_two_parameters(self):
        self.assertEqual(self.base.call("both", "me", 1, 1, 2), [("team", 4)])
        self.assertEqual(self.base["project", 1].parent, 2)

    def test_a_row_that_is_moved_where_it_is(self):
        self.base.call("twice", "me", 1, 2, 1)
        self.assertEqual(self.base["project", 1].parent, 1)

    def test_new_rows_under_new_rows(self):
        made = self.base.call("deep", "me", 2)
        self.assertEqual(made, [("project", 2), ("task", 1), ("task", 2), ("step", 1), ("team", 4)])
        self.assertEqual(self.base["step", 1].chain, [("step", 1), ("task", 2), ("project", 2), ("team", 2)])
        self.assertEqual(self.base["task", 1].chain, [("task", 1), ("project", 2), ("team", 2)])
        self.assertEqual(self.base["team", 4].chain, [("team", 4)])

    def test_rows_moved_under_new_rows(self):
        self.base.call("deep", "me", 2)
        self.assertEqual(self.base.call("lift", "me", 2, 1), [("team", 5), ("project", 3), ("task", 3)])
        self.assertEqual(self.base["task", 2].chain, [("task", 2), ("project", 3), ("team", 5)])
        self.assertEqual(self.base["step", 1].chain, [("step", 1), ("task", 3), ("project", 3), ("team", 5)])


class ValueTest(AgreeTestCase):
    def test_the_last_of_several_lines_counts(self):
        base = Base(system(
            ("handler one", "row t in team", "row s in team", "set t.owner = 'a'", "set s.owner = 'b'",
             "set t.lead = 'c'"),
            ("handler two", "row p in project", "row t in team", "set p.owner = 'a'",
             "each project below t sets owner = 'b'"),
            ("handler three", "row p in project", "row t in team", "each project below t sets owner = 'b'",
             "set p.owner = 'a'"),
        ))
        base.put("team", None, ["x", "x"])
        base.put("project", 1, ["x"])
        base.put("project", 1, ["x"])
        base.call("one", "me", 1, 1)
        self.assertEqual((base["team", 1]["owner"], base["team", 1]["lead"]), ("b", "c"))
        base.call("two", "me", 1, 1)
        self.assertEqual(values(base, "project", "owner"), ["b", "b"])
        base.call("three", "me", 1, 1)
        self.assertEqual(values(base, "project", "owner"), ["a", "b"])

    def test_each_line_over_rows_that_the_call_moved_and_put_in(self):
        base = Base(system(
            ("handler h", "row t in team", "row p in project", "row q in project",
             "each task below t sets owner = 'z'", "new n in project under t with 'z'",
             "new k in task under n with 'k' 'k'", "new l in task under q with 'l' 'l'", "move p under t"),
        ))
        for _ in range(2):
            base.put("team", None, ["a", "a"])
        for parent in (1, 2, 2):
            base.put("project", parent, ["a"])
            base.put("task", base.numbers("project")[-1], ["a", "a"])
        base.call("h", "me", 1, 2, 3)
        # The rows 1 and 2 lie below the team now, row 3 does not; the new row 4 does, and row 5 does not.
        self.assertEqual(values(base, "task", "owner"), ["z", "z", "a", "z", "l"])
        self.assertEqual(values(base, "task", "state"), ["a", "a", "a", "k", "l"])

    def test_each_line_over_rows_that_the_call_moved_away(self):
        base = Base(system(("handler h", "row p in project", "row s in team", "row t in team", "move p under s",
                            "each project below t sets owner = 'z'", "each project below s sets owner = 'y'")))
        for _ in range(2):
            base.put("team", None, ["a", "a"])
        base.put("project", 2, ["a"])
        base.put("project", 2, ["a"])
        base.call("h", "me", 1, 1, 2)
        self.assertEqual(values(base, "project", "owner"), ["y", "z"])

    def test_each_line_below_a_new_row(self):
        base = Base(system(("handler h", "row p in project", "new n in team with me me", "move p under n",
                            "each task below n sets state = 'z'", "new k in task under p with me 'y'")))
        base.put("team", None, ["a", "a"])
        for _ in range(2):
            base.put("project", 1, ["a"])
            base.put("task", base.numbers("project")[-1], ["a", "a"])
        base.call("h", "me", 2)
        self.assertEqual(values(base, "task", "state"), ["a", "z", "z"])

    def test_each_line_over_tables_two_and_three_levels_below(self):
        base = Base(system(("handler h", "row t in team", "each step below t sets owner = 'z'",
                            "each task below t sets state = 'y'", "each project below t sets owner = 'x'")))
        for team in (1, 2):
            base.put("team", None, ["a", "a"])
            base.put("project", team, ["a"])
            base.put("task", team, ["a", "a"])
            base.put("step", team, ["a"])
        base.call("h", "me", 2)
        self.assertEqual(values(base, "step", "owner"), ["a", "z"])
        self.assertEqual(values(base, "task", "state"), ["a", "y"])
        self.assertEqual(values(base, "task", "owner"), ["a", "a"])
        self.assertEqual(values(base, "project", "owner"), ["a", "x"])
        self.assertEqual(values(base, "team", "owner"), ["a", "a"])

    def test_values_of_new_rows_count_as_written_first(self):
        base = Base(system(("handler h", "row t in team", "each project below t sets owner = 'z'",
                            "new p in project under t with 'y'")))
        base.put("team", None, ["a", "a"])
        base.call("h", "me", 1)
        self.assertEqual(values(base, "project", "owner"), ["z"])


class FollowTest(AgreeTestCase):
    def filled(self, *handlers):
        """Returns a base with two whole chains, in which all rows have the number of their chain."""
        base = Base(chain_system(*handlers))
        for number, value in ((1, "p"), (2, "q")):
            base.put("a", None, [value, value])
            base.put("b", number, ["no", value])
            base.put("c", number, ["no", "no"])
            base.put("d", number, ["no", "no"])
        return base

    def check(self, base, number, above, below):
        """Checks all columns that follow, given the value of a.x; the column y of c takes b.x."""
        self.assertEqual((base["b", number]["x"], base["c", number]["x"], base["d", number]["x"]), (above,) * 3)
        self.assertEqual((base["c", number]["y"], base["d", number]["z"]), (below, below))

    def test_put(self):
        base = self.filled()
        self.check(base, 1, "p", "p")
        self.check(base, 2, "q", "q")

    def test_set_at_the_top(self):
        base = self.filled(("handler h", "row r in a", "set r.x = 'z'"))
        base.call("h", "me", 2)
        self.check(base, 2, "z", "z")
        self.check(base, 1, "p", "p")

    def test_writing_a_column_that_follows_has_no_effect(self):
        base = self.filled(("handler h", "row r in b", "row s in d", "set r.x = 'z'", "set s.z = 'z'",
                            "each c below r sets y = 'z'"))
        before = state_of(base)
        base.call("h", "me", 1, 1)
        self.assertEqual({address: row[:2] for address, row in state_of(base).items()},
                         {address: row[:2] for address, row in before.items()})

    def test_each_line_below_which_columns_follow(self):
        base = self.filled(("handler h", "row r in a", "each b below r sets y = 'z'", "set r.x = 'w'"))
        base.call("h", "me", 1)
        self.assertEqual(base["b", 1]["y"], "z")
        self.check(base, 1, "w", "w")

    def test_move(self):
        base = self.filled(("handler h", "row r in b", "row s in a", "move r under s"))
        base.call("h", "me", 1, 2)
        self.check(base, 1, "q", "q")
        self.assertEqual(base["b", 1]["y"], "p")

    def test_new_rows(self):
        base = self.filled(("handler h", "row r in a", "new b3 in b under r with 'no' 'n'",
                            "new c3 in c under b3 with 'no' 'no'", "new d3 in d under c3 with 'no' 'no'",
                            "set r.x = 'z'"))
        base.call("h", "me", 2)
        self.check(base, 3, "z", "z")
        self.check(base, 2, "z", "z")
        self.assertEqual(base["b", 3]["y"], "n")

    def test_a_row_moved_under_a_new_row(self):
        base = self.filled(("handler h", "row r in d", "row s in a", "new b3 in b under s with 'no' 'n'",
                            "new c3 in c under b3 with 'no' 'no'", "move r under c3"))
        base.call("h", "me", 1, 2)
        self.assertEqual((base["d", 1]["x"], base["d", 1]["z"]), ("q", "q"))

    def test_a_column_that_follows_another_one_of_its_row_with_the_same_name_above(self):
        schema = Schema.read("root a x y\ntable b a x y\ntable c b x y\nfollow b x y\nfollow b y x\nfollow c x y\n"
                             "follow c y x")
        base = Base(system(("handler h", "row r in a", "set r.x = 'z'"), schema=schema))
        base.put("a", None, ["p", "q"])
        base.put("b", 1, ["no", "no"])
        base.put("c", 1, ["no", "no"])
        self.assertEqual([base["b", 1][place] for place in ("x", "y")], ["q", "p"])
        self.assertEqual([base["c", 1][place] for place in ("x", "y")], ["p", "q"])
        base.call("h", "me", 1)
        self.assertEqual([base["b", 1][place] for place in ("x", "y")], ["q", "z"])
        self.assertEqual([base["c", 1][place] for place in ("x", "y")], ["z", "q"])

    def test_edits(self):
        base = self.filled()
        base["a", 1]["x"] = "z"
        self.check(base, 1, "z", "z")
        base["b", 1].parent = 2
        self.check(base, 1, "q", "q")
        base["c", 1]["y"] = "w"
        self.check(base, 1, "q", "q")
        base["d", 1].move(2)
        self.assertEqual(base["d", 1]["x"], "q")


class TakeTest(AgreeTestCase):
    def filled(self, *handlers):
        base = Base(system(*handlers))
        for team in (1, 2):
            base.put("team", None, ["a", "a"])
            base.put("project", team, ["a"])
            base.put("task", team, ["a", "a"])
            base.put("step", team, ["a"])
        return base

    def test_all_rows_below_leave_too(self):
        for table, left in (("team", []), ("project", ["team"]), ("task", ["team", "project"]),
                            ("step", ["team", "project", "task"])):
            base = self.filled(("handler h", f"row x in {table}", "take x"))
            self.assertEqual(base.call("h", "me", 1), [])
            self.assertEqual({address for address in state_of(base)},
                             {(name, 1) for name in left} | {(name, 2) for name in ("team", "project", "task", "step")})

    def test_rows_below_after_the_moves_of_the_call(self):
        base = self.filled(("handler h", "row t in team", "row p in project", "row q in project", "take t",
                            "move p under t", "new n in team with me me", "move q under n"))
        self.assertEqual(base.call("h", "me", 1, 2, 1), [("team", 3)])
        self.assertEqual(sorted(state_of(base)), [("project", 1), ("step", 1), ("task", 1), ("team", 2), ("team", 3)])

    def test_rows_that_are_put_in_and_taken_at_once(self):
        base = self.filled(("handler h", "row t in team", "new p in project under t with me",
                            "new k in task under p with me me", "take t"))
        self.assertEqual(base.call("h", "me", 1), [("project", 3), ("task", 3)])
        self.assertEqual(base.numbers("project"), [2])
        self.assertEqual(base.numbers("task"), [2])
        self.assertEqual(base.call("h", "me", 2), [("project", 4), ("task", 4)])
        self.assertEqual(len(base), 0)
        self.assertEqual(base.put("team", None, ["a", "a"]), 3)

    def test_the_same_row_taken_twice_and_a_row_below_another(self):
        base = self.filled(("handler h", "row t in team", "row p in project", "row q in project", "take p", "take t",
                            "take q", "take p", "set p.owner = me", "set t.owner = me"))
        base.call("h", "me", 1, 1, 1)
        self.assertEqual(sorted(state_of(base)), [("project", 2), ("step", 2), ("task", 2), ("team", 2)])
        base.call("h", "me", 2, 2, 2)
        self.assertEqual(len(base), 0)


class DepthTest(AgreeTestCase):
    def setUp(self):
        self.base = Base(system(
            ("handler team", "new n in team with me me"),
            ("handler project", "row t in team", "new n in project under t with me"),
            ("handler note", "new n in note with me"),
            ("handler team2", "row x in note", "new n in team with me me"),
            ("handler touch", "row t in team"),
            ("handler pair", "row t in team", "row s in team", "set t.owner = me"),
            ("handler move", "row p in project", "row t in team", "move p under t"),
            ("handler drop", "row p in project", "row x in note", "take p", "set x.text = me"),
        ))

    def test_new_rows(self):
        self.base.call("team", "me")
        self.base.call("project", "me", 1)
        self.assertEqual((depths(self.base, "team"), depths(self.base, "project")), ([2], [2]))
        self.base.call("project", "me", 1)
        self.assertEqual((depths(self.base, "team"), depths(self.base, "project")), ([3], [3, 3]))
        self.base.call("team", "me")
        self.assertEqual((depths(self.base, "team"), depths(self.base, "project")), ([3, 1], [3, 3]))

    def test_rows_below_an_argument_and_rows_apart(self):
        for _ in range(2):
            self.base.call("team", "me")
        self.base.call("project", "me", 1)
        self.base.call("project", "me", 2)
        self.base.call("touch", "me", 1)
        self.assertEqual((depths(self.base, "team"), depths(self.base, "project")), ([3, 2], [3, 2]))
        self.base.call("touch", "me", 1)
        self.assertEqual((depths(self.base, "team"), depths(self.base, "project")), ([4, 2], [4, 2]))

    def test_the_greatest_depth_of_all_arguments_counts(self):
        for _ in range(2):
            self.base.call("team", "me")
        for _ in range(3):
            self.base.call("touch", "me", 1)
        self.base.call("pair", "me", 2, 1)
        self.assertEqual(depths(self.base, "team"), [5, 5])
        self.base.call("pair", "me", 2, 2)
        self.assertEqual(depths(self.base, "team"), [5, 6])

    def test_the_own_depth_of_a_row_below_counts(self):
        self.base.call("team", "me")
        self.base.call("team", "me")
        self.base.call("project", "me", 1)
        self.base.call("move", "me", 1, 2)
        self.base.call("move", "me", 1, 2)
        self.assertEqual((depths(self.base, "team"), depths(self.base, "project")), ([2, 4], [4]))
        # Moved by hand under a row of lesser depth, the row keeps its own.
        self.base["project", 1].parent = 1
        self.assertEqual((depths(self.base, "team"), depths(self.base, "project")), ([2, 4], [4]))
        self.base.call("touch", "me", 1)
        self.assertEqual((depths(self.base, "team"), depths(self.base, "project")), ([3, 4], [5]))

    def test_arguments_that_no_line_uses(self):
        self.base.call("note", "me")
        self.base.call("team2", "me", 1)
        self.assertEqual((depths(self.base, "note"), depths(self.base, "team")), ([2], [2]))
        self.base.call("team2", "me", 1)
        self.assertEqual((depths(self.base, "note"), depths(self.base, "team")), ([3], [2, 3]))

    def test_a_row_that_is_taken_counts_as_an_argument(self):
        self.base.call("note", "me")
        self.base.call("team", "me")
        self.base.call("project", "me", 1)
        self.base.call("drop", "me", 1, 1)
        self.assertEqual((depths(self.base, "note"), depths(self.base, "team")), ([3], [2]))

    def test_rows_that_were_put_have_depth_0(self):
        self.base.put("team", None, ["a", "b"])
        self.base.put("project", 1, ["a"])
        self.assertEqual((depths(self.base, "team"), depths(self.base, "project")), ([0], [0]))
        self.base.call("touch", "me", 1)
        self.assertEqual((depths(self.base, "team"), depths(self.base, "project")), ([1], [1]))
        self.base.put("project", 1, ["a"])
        self.assertEqual(depths(self.base, "project"), [1, 0])

    def test_edits_keep_all_depths(self):
        self.base.call("team", "me")
        self.base.call("team", "me")
        self.base.call("project", "me", 1)
        before = (depths(self.base, "team"), depths(self.base, "project"))
        self.base["team", 1]["owner"] = "z"
        self.base["project", 1].parent = 2
        self.base["project", 1].move(1)
        self.base.put("team", None, ["a", "b"])
        self.assertEqual((depths(self.base, "team")[:2], depths(self.base, "project")), before)

    def test_a_refused_call_keeps_all_depths(self):
        base = Base(system(("handler team", "new n in team with me me"),
                           ("handler never", "row t in team", "need me = 'x'", "set t.owner = me")))
        base.call("team", "ann")
        with self.assertRaises(ValueError):
            base.call("never", "ann", 1)
        self.assertEqual(depths(base, "team"), [1])


class PatternTest(AgreeTestCase):
    def test_positions_that_are_equal_and_constants_of_the_system(self):
        base = Base(system(("handler h", "need 'a' = 'b'"), ("handler g", "new n in note with 'c'")))
        base.put("team", None, ["a", "x"])
        base.put("project", 1, ["x"])
        base.put("task", 1, ["a", "z"])
        places = ["owner", "state", "project.owner", "project.team.owner", "project.team.lead"]
        self.assertEqual(base.pattern_of("task", 1), Pattern(places, [
            ["owner", "project.team.owner", "'a'"], ["project.owner", "project.team.lead"]]))
        self.assertEqual(str(base.pattern_of("team", 1)), "owner = 'a'; lead")
        base["task", 1]["state"] = "c"
        self.assertEqual(str(base.pattern_of("task", 1)),
                         "owner = project.team.owner = 'a'; state = 'c'; project.owner = project.team.lead")

    def test_all_equal_and_all_apart(self):
        base = Base(system(("handler h",)))
        base.put("team", None, ["a", "a"])
        base.put("team", None, ["a", "b"])
        self.assertEqual(str(base.pattern_of("team", 1)), "owner = lead")
        self.assertEqual(str(base.pattern_of("team", 2)), "owner; lead")


class InterfaceTest(AgreeTestCase):
    def setUp(self):
        self.base = Base(system(("handler h", "row x in note", "take x")))
        for text in "abc":
            self.base.put("note", None, [text])
        self.base.put("remark", 2, ["d"])
        self.base.call("h", "me", 1)

    def test_numbers_are_new_lists_in_ascending_order(self):
        self.assertEqual(self.base.numbers("note"), [2, 3])
        self.base.numbers("note").clear()
        self.assertEqual(self.base.numbers("note"), [2, 3])

    def test_len(self):
        self.assertEqual(len(self.base), 3)

    def test_in(self):
        self.assertIs(True, ("note", 2) in self.base)
        self.assertIn(("remark", 1), self.base)
        for address in (("note", 1), ("note", 4), ("note", 0), ("note", -1), ("remark", 2), ("team", 1), ("nope", 1),
                        (2, "note"), ("note",), ("note", 2, 2), (), ("note", None), ("note", "2"), ("note", [2]),
                        (["note"], 2), (None, None), ["note", 2], ("remark", True), None, "ab"):
            self.assertIs(False, address in self.base, address)

    def test_a_base_is_not_iterated_over(self):
        with self.assertRaises(TypeError):
            list(self.base)


if __name__ == "__main__":
    unittest.main()
