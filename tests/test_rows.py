"""Points 2, 29 and 30: rows, and edits without handlers."""

import unittest

from ownersagree.bases import Base, Row
from ownersagree.errors import BadValue, NoRow, UnknownName, WrongCount, WrongTable
from tests.helpers import AgreeTestCase, state_of, system

NO_VALUES = ["", "A", "a b", "'a'", "abcdefghij01234567890", None, 3, True, [], ["a"], {"a": 1}, object()]


class RowCase(AgreeTestCase):
    def setUp(self):
        self.base = Base(system(("handler drop", "row t in team", "take t")))
        for owner in ("a", "b"):
            self.base.put("team", None, [owner, "x"])
            self.base.put("project", self.base.numbers("team")[-1], [f"p{owner}"])
        self.base.put("task", 1, ["k", "s"])


class PutTest(RowCase):
    def test_numbers_parents_and_values(self):
        self.assertEqual(self.base.put("team", None, ["c", "d"]), 3)
        self.assertEqual(self.base.put("project", 3, ("e",)), 3)
        self.assertEqual(self.base.put("project", 1, ["f"]), 4)
        self.assertEqual(self.base.put("task", 4, ["g", "h"]), 2)
        self.assertEqual(state_of(self.base)[("team", 3)], (None, {"owner": "c", "lead": "d"}, 0))
        self.assertEqual(state_of(self.base)[("project", 3)], (3, {"owner": "e"}, 0))
        self.assertEqual(state_of(self.base)[("project", 4)], (1, {"owner": "f"}, 0))
        self.assertEqual(state_of(self.base)[("task", 2)], (4, {"owner": "g", "state": "h"}, 0))

    def test_the_number_is_an_integer(self):
        self.assertIs(type(self.base.put("note", None, ["a"])), int)

    def test_a_list_that_is_changed_afterwards(self):
        values = ["c", "d"]
        self.base.put("team", None, values)
        self.assertEqual(values, ["c", "d"])
        values[0] = "z"
        values.append("y")
        self.assertEqual(self.base["team", 3]["owner"], "c")

    def test_unknown_tables(self):
        for table in ("nope", "owner", ""):
            for parent in (None, 1, 9):
                self.check_error(UnknownName(0, table), self.base.put, table, parent, [])

    def test_parents_that_are_not_in_the_base(self):
        for number in (0, -1, 3, 10 ** 30, None):
            for values in (["a"], [], [""]):
                self.check_error(NoRow("team", number), self.base.put, "project", number, values)

    def test_a_parent_of_a_root_table(self):
        for number in (0, 1, 99):
            for values in (["a", "b"], [], ["", ""]):
                self.check_error(WrongTable(0, "team"), self.base.put, "team", number, values)

    def test_wrong_counts(self):
        for values in ([], ["a"], ["a", "b", "c"], [None], ["", "", ""]):
            self.check_error(WrongCount(0), self.base.put, "team", None, values)
            self.check_error(WrongCount(0), self.base.put, "task", 1, values)
        self.check_error(WrongCount(0), self.base.put, "project", 1, [])

    def test_values_that_are_none(self):
        for value in NO_VALUES:
            self.check_error(BadValue(value), self.base.put, "team", None, [value, "a"])
            self.check_error(BadValue(value), self.base.put, "team", None, ["a", value])
            self.check_error(BadValue(value), self.base.put, "task", 2, [value, None])

    def test_several_errors_at_once(self):
        for parent, values, error in [
                (9, [], NoRow("project", 9)), (None, [""], NoRow("project", None)), (1, [""], WrongCount(0)),
                (1, ["", 3], BadValue("")), (1, ["a", 3], BadValue(3))]:
            self.check_error(error, self.base.put, "task", parent, values)

    def test_a_refused_put_changes_nothing(self):
        before = state_of(self.base)
        for table, parent, values in (("nope", 1, ["a"]), ("project", 9, ["a"]), ("team", 1, ["a", "b"]),
                                      ("team", None, ["a"]), ("team", None, ["a", ""]), ("project", 1, [None])):
            with self.assertRaises(ValueError):
                self.base.put(table, parent, values)
        self.assertEqual(state_of(self.base), before)
        self.assertEqual((self.base.put("team", None, ["a", "b"]), self.base.put("project", 1, ["a"])), (3, 3))


class ReadTest(RowCase):
    def test_what_a_row_shows(self):
        row = self.base["task", 1]
        self.assertIsInstance(row, Row)
        self.assertEqual((row.table, row.number, row.parent), ("task", 1, 1))
        self.assertEqual([row[place] for place in ("owner", "state", "project.owner", "project.team.owner",
                                                   "project.team.lead")], ["k", "s", "pa", "a", "x"])
        self.assertEqual(row.chain, [("task", 1), ("project", 1), ("team", 1)])

    def test_a_row_of_a_root_table(self):
        row = self.base["team", 2]
        self.assertIsNone(row.parent)
        self.assertEqual((row["owner"], row["lead"], row.chain), ("b", "x", [("team", 2)]))

    def test_the_moment_of_the_question_counts(self):
        row, above = self.base["task", 1], self.base["project", 1]
        above["owner"] = "z"
        self.base["team", 2]["lead"] = "y"
        self.assertEqual(row["project.owner"], "z")
        above.parent = 2
        self.assertEqual((above.parent, row["project.team.owner"], row["project.team.lead"]), (2, "b", "y"))
        self.assertEqual(row.chain, [("task", 1), ("project", 1), ("team", 2)])

    def test_the_chain_is_a_new_list(self):
        row = self.base["task", 1]
        row.chain.clear()
        self.assertEqual(len(row.chain), 3)
        self.assertEqual([type(address) for address in row.chain], [tuple] * 3)

    def test_unknown_positions(self):
        for position in ("nope", "lead", "project", "team.owner", "project.state", "project.team", "task.owner", "",
                         "project.team.owner.lead", "me", "'a'", "project..owner", ".owner", "owner."):
            self.check_error(UnknownName(0, position), lambda: self.base["task", 1][position])

    def test_attributes_are_set_on_the_row(self):
        names = vars(self.base["task", 1])
        self.assertEqual((names["table"], names["number"]), ("task", 1))

    def test_a_row_is_not_iterated_over(self):
        with self.assertRaises(TypeError):
            list(self.base["task", 1])


class ChangeTest(RowCase):
    def test_a_column(self):
        self.base["task", 1]["state"] = "z"
        self.assertEqual(state_of(self.base)[("task", 1)], (1, {"owner": "k", "state": "z"}, 0))
        self.base["task", 1]["owner"] = "0"
        self.assertEqual(self.base["task", 1]["owner"], "0")

    def test_a_column_of_one_row_alone(self):
        before = state_of(self.base)
        self.base["project", 2]["owner"] = "z"
        after = state_of(self.base)
        self.assertEqual(after.pop(("project", 2)), (2, {"owner": "z"}, 0))
        before.pop(("project", 2))
        self.assertEqual(after, before)

    def test_move_and_the_property_do_the_same(self):
        self.base["project", 1].move(2)
        self.assertEqual(self.base["project", 1].parent, 2)
        self.base["project", 1].parent = 1
        self.assertEqual(self.base["project", 1].parent, 1)
        self.assertIsNone(self.base["project", 1].move(1))
        self.base["project", 1].move(number=2)
        self.assertEqual(self.base["project", 1].parent, 2)

    def change(self, row, column, value):
        row[column] = value

    def assign(self, row, number):
        row.parent = number

    def test_unknown_columns(self):
        row = self.base["task", 1]
        for column in ("nope", "lead", "project.owner", "project.team.owner", "project", "", "me"):
            self.check_error(UnknownName(0, column), self.change, row, column, "a")
            self.check_error(UnknownName(0, column), self.change, row, column, None)

    def test_values_that_are_none(self):
        for value in NO_VALUES:
            self.check_error(BadValue(value), self.change, self.base["task", 1], "owner", value)
        self.assertEqual(self.base["task", 1]["owner"], "k")

    def test_moves_that_are_wrong(self):
        for move in (self.assign, lambda row, number: row.move(number)):
            for number in (1, 2, None, 99):
                self.check_error(WrongTable(0, "team"), move, self.base["team", 1], number)
            for number in (0, -1, 3, 10 ** 30, None):
                self.check_error(NoRow("team", number), move, self.base["project", 1], number)
            self.check_error(NoRow("project", 3), move, self.base["task", 1], 3)
        self.assertEqual(self.base["project", 1].parent, 1)


class LeftTest(RowCase):
    def test_a_row_that_has_left_the_base(self):
        project, task, team = self.base["project", 1], self.base["task", 1], self.base["team", 1]
        self.base.call("drop", "me", 1)
        for row in (project, task, team):
            error = NoRow(row.table, row.number)
            self.check_error(error, lambda: row["owner"])
            self.check_error(error, lambda: row["nope"])
            self.check_error(error, lambda: row.parent)
            self.check_error(error, lambda: row.chain)
            self.check_error(error, row.__setitem__, "owner", "a")
            self.check_error(error, row.__setitem__, "nope", None)
            self.check_error(error, row.move, 2)
            self.check_error(error, row.move, None)
            self.check_error(error, lambda: setattr(row, "parent", 99))
            self.check_error(error, lambda: setattr(row, "parent", None))
        self.assertEqual((project.table, project.number), ("project", 1))
        self.assertEqual(sorted(state_of(self.base)), [("project", 2), ("team", 2)])

    def test_a_row_that_comes_back_with_a_trial(self):
        row = self.base["task", 1]
        with self.base.trial() as trial:
            self.base.call("drop", "me", 1)
            self.check_error(NoRow("task", 1), lambda: row["owner"])
            trial.keep = False
        self.assertEqual(row["owner"], "k")


if __name__ == "__main__":
    unittest.main()
