"""Point 59: which rows a call touches."""

import unittest

from ownersagree.bases import Base
from ownersagree.errors import Refused
from tests.helpers import AgreeTestCase, state_of, system


class TouchedTest(AgreeTestCase):
    def filled(self, *lines, watch=()):
        """Returns a base with two teams, each with two projects with a task with a step."""
        base = Base(system(("handler h", *lines)), watch=watch)
        for team in (1, 2):
            base.put("team", None, ["a", "a"])
        for project, team in ((1, 1), (2, 2), (3, 1), (4, 2)):
            base.put("project", team, ["a"])
            base.put("task", project, ["a", "a"])
            base.put("step", project, ["a"])
        return base

    def check(self, wanted, lines, rows=(), values=()):
        base = self.filled(*lines)
        before = state_of(base)
        call = ("h", "me", rows, values)
        self.assertEqual(base.touched(call), wanted)
        self.assertEqual(base.touched(call), wanted)
        self.assertEqual(state_of(base), before)
        base.run(call)
        return base

    def test_nothing(self):
        self.check([], [])
        self.check([], ["row t in team", "need t.owner = 'a'"], rows=(1,))

    def test_set(self):
        self.check([(0, "set", ("team", 2)), (1, "set", ("team", 2))],
                   ["row t in team", "set t.owner = me", "set t.owner = me"], rows=(2,))

    def test_move_under_a_row_parameter(self):
        self.check([(0, "moved", ("project", 1)), (0, "under", ("team", 2))],
                   ["row p in project", "row t in team", "move p under t"], rows=(1, 2))

    def test_move_under_a_new_row(self):
        self.check([(0, "new", ("team", 3)), (1, "moved", ("project", 1))],
                   ["row p in project", "new n in team with me me", "move p under n"], rows=(1,))

    def test_new_in_a_root_table(self):
        self.check([(0, "new", ("team", 3))], ["new n in team with me me"])

    def test_new_under_a_row_parameter_and_under_a_new_row(self):
        self.check([(0, "under", ("team", 2)), (0, "new", ("project", 5)), (1, "new", ("task", 5)),
                    (2, "under", ("project", 3)), (2, "new", ("task", 6))],
                   ["row t in team", "row p in project", "new m in project under t with me",
                    "new n in task under m with me me", "new o in task under p with me me"], rows=(2, 3))

    def test_a_new_row_that_is_taken_at_once_is_not_touched(self):
        self.check([(0, "under", ("project", 3)), (1, "taken", ("project", 3)), (1, "taken", ("task", 3)),
                    (1, "taken", ("step", 3))],
                   ["row p in project", "new n in task under p with me me", "take p"], rows=(3,))

    def test_each(self):
        self.check([(0, "each", ("task", 1)), (0, "each", ("task", 3))],
                   ["row t in team", "each task below t sets owner = me"], rows=(1,))
        self.check([(0, "each", ("step", 2))],
                   ["row p in project", "each step below p sets owner = me"], rows=(2,))

    def test_each_over_moved_rows_and_new_rows(self):
        lines = ["row t in team", "row p in project", "new n in project under t with me",
                 "each project below t sets owner = me", "move p under t", "each task below t sets owner = me"]
        self.check([(0, "under", ("team", 1)), (0, "new", ("project", 5)), (1, "each", ("project", 1)),
                    (1, "each", ("project", 2)), (1, "each", ("project", 3)), (2, "moved", ("project", 2)),
                    (2, "under", ("team", 1)), (3, "each", ("task", 1)), (3, "each", ("task", 2)),
                    (3, "each", ("task", 3))], lines, rows=(1, 2))

    def test_each_below_a_new_row(self):
        self.check([(0, "new", ("team", 3)), (1, "moved", ("project", 4)), (2, "each", ("step", 4))],
                   ["row p in project", "new n in team with me me", "move p under n",
                    "each step below n sets owner = me"], rows=(4,))

    def test_each_over_rows_that_are_taken(self):
        self.check([(0, "each", ("task", 2)), (1, "taken", ("project", 2)), (1, "taken", ("task", 2)),
                    (1, "taken", ("step", 2))],
                   ["row p in project", "each task below p sets owner = me", "take p"], rows=(2,))

    def test_take_in_the_order_of_the_tables_and_numbers(self):
        base = self.check([(0, "taken", ("team", 1)), (0, "taken", ("project", 1)), (0, "taken", ("project", 3)),
                           (0, "taken", ("task", 1)), (0, "taken", ("task", 3)), (0, "taken", ("step", 1)),
                           (0, "taken", ("step", 3))], ["row t in team", "take t"], rows=(1,))
        self.assertEqual(len(base), 7)

    def test_rows_that_are_taken_after_the_moves(self):
        self.check([(0, "taken", ("team", 1)), (0, "taken", ("project", 2)), (0, "taken", ("project", 3)),
                    (0, "taken", ("task", 2)), (0, "taken", ("task", 3)), (0, "taken", ("step", 2)),
                    (0, "taken", ("step", 3)), (1, "new", ("team", 3)), (2, "moved", ("project", 1)),
                    (3, "moved", ("project", 2)), (3, "under", ("team", 1))],
                   ["row t in team", "row p in project", "row q in project", "take t", "new n in team with me me",
                    "move p under n", "move q under t"], rows=(1, 1, 2))

    def test_a_row_below_two_rows_that_are_taken(self):
        self.check([(0, "taken", ("project", 1)), (0, "taken", ("task", 1)), (0, "taken", ("step", 1)),
                    (1, "taken", ("team", 1)), (1, "taken", ("project", 1)), (1, "taken", ("project", 3)),
                    (1, "taken", ("task", 1)), (1, "taken", ("task", 3)), (1, "taken", ("step", 1)),
                    (1, "taken", ("step", 3))],
                   ["row t in team", "row p in project", "take p", "take t"], rows=(1, 1))

    def test_the_same_row_for_two_parameters(self):
        self.check([(0, "set", ("team", 1)), (1, "set", ("team", 1))],
                   ["row t in team", "row s in team", "set t.owner = me", "set s.lead = me"], rows=(1, 1))

    def test_the_lines_before_the_changes_do_not_count(self):
        self.check([(0, "set", ("team", 1))],
                   ["row t in team", "value u", "need t.owner = 'a'", "need u = me", "set t.owner = me"],
                   rows=(1,), values=("me",))

    def test_kinds_of_what_is_returned(self):
        base = self.filled("row t in team", "set t.owner = me")
        found = base.touched(("h", "me", (1,), ()))
        self.assertIs(type(found), list)
        self.assertEqual([type(part) for part in found[0]], [int, str, tuple])
        found.clear()
        self.assertEqual(len(base.touched(("h", "me", [1], []))), 1)

    def test_it_uses_up_no_number(self):
        base = self.filled("new n in note with me")
        for _ in range(3):
            self.assertEqual(base.touched(("h", "me", (), ())), [(0, "new", ("note", 1))])
        self.assertEqual(base.call("h", "me"), [("note", 1)])

    def test_the_errors_of_guards_and_of_watched_bases(self):
        base = self.filled("value u", "need u = 'a'", "new n in team with u me", watch=[("team", "owner", "lead")])
        self.check_error(Refused("h", 0), base.touched, ("h", "a", (), ("b",)))
        self.check_error(Refused("h", None, ("team", "owner", "lead"), 3), base.touched, ("h", "b", (), ("a",)))
        self.assertEqual(base.touched(("h", "a", (), ("a",))), [(0, "new", ("team", 3))])


if __name__ == "__main__":
    unittest.main()
