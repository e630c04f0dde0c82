"""Point 56: what questions find."""

import unittest

from ownersagree.bases import Base
from ownersagree.questions import Question
from tests.helpers import AgreeTestCase, state_of, system, teams


class AskTest(AgreeTestCase):
    def setUp(self):
        self.base = Base(system(("handler drop", "row p in project", "take p"),
                                ("handler move", "row k in task", "row p in project", "move k under p")))
        for team in ("a", "b"):
            self.base.put("team", None, [team, "lead"])
        for parent, owner in ((2, "c"), (1, "d"), (1, "c")):
            self.base.put("project", parent, [owner])
        for parent, owner, state in ((3, "c", "on"), (1, "c", "off"), (2, "d", "on"), (3, "e", "off"), (1, "a", "on")):
            self.base.put("task", parent, [owner, state])
            self.base.put("step", self.base.numbers("task")[-1], [owner])

    def ask(self, lines, me="me", rows=(), values=()):
        question = Question.read(teams(), "\n".join(["question q", *lines]))
        before = state_of(self.base)
        found = self.base.ask(question, me, rows, values)
        self.assertEqual(state_of(self.base), before)
        self.assertIs(type(found), list)
        return found

    def test_all_rows_of_a_table(self):
        self.assertEqual(self.ask(["find n in task"]), [1, 2, 3, 4, 5])
        self.assertEqual(self.ask(["find n in note"]), [])

    def test_conditions(self):
        self.assertEqual(self.ask(["find n in task", "where n.state = 'on'"]), [1, 3, 5])
        self.assertEqual(self.ask(["find n in task", "where 'on' = n.state"]), [1, 3, 5])
        self.assertEqual(self.ask(["find n in task", "where n.owner = n.project.owner"]), [1, 2, 3])
        self.assertEqual(self.ask(["find n in task", "where n.owner = n.project.owner", "where n.state = 'on'"]),
                         [1, 3])
        self.assertEqual(self.ask(["find n in task", "where n.owner = me"], me="c"), [1, 2])
        self.assertEqual(self.ask(["find n in task", "where n.project.team.owner = me"], me="b"), [2, 5])

    def test_conditions_without_the_found_row(self):
        self.assertEqual(self.ask(["find n in team", "where me = 'me'"]), [1, 2])
        self.assertEqual(self.ask(["find n in team", "where me = 'you'"]), [])
        self.assertEqual(self.ask(["value u", "find n in team", "where u = 'a'"], values=("a",)), [1, 2])

    def test_row_and_value_parameters(self):
        lines = ["row p in project", "value u", "find n in task", "where n.project.team.owner = p.team.owner",
                 "where n.state = u"]
        self.assertEqual(self.ask(lines, rows=(1,), values=("on",)), [5])
        self.assertEqual(self.ask(lines, rows=[2], values=["off"]), [4])
        self.assertEqual(self.ask(lines, rows=(3,), values=("me",)), [])

    def test_below(self):
        for team, projects, tasks in ((1, [2, 3], [1, 3, 4]), (2, [1], [2, 5])):
            self.assertEqual(self.ask(["row t in team", "find n in project below t"], rows=(team,)), projects)
            self.assertEqual(self.ask(["row t in team", "find n in task below t"], rows=(team,)), tasks)
            self.assertEqual(self.ask(["row t in team", "find n in step below t"], rows=(team,)), tasks)
        self.assertEqual(self.ask(["row p in project", "find n in step below p"], rows=(3,)), [1, 4])

    def test_below_with_conditions(self):
        self.assertEqual(self.ask(["row t in team", "find n in task below t", "where n.state = 'on'"], rows=(1,)),
                         [1, 3])

    def test_the_row_behind_below_may_be_any_row_parameter(self):
        lines = ["row p in project", "row t in team", "row k in task", "find n in task below t",
                 "where n.owner = k.owner"]
        self.assertEqual(self.ask(lines, rows=(1, 1, 2)), [1])

    def test_after_calls(self):
        self.base.call("move", "me", 1, 1)
        self.base.call("drop", "me", 2)
        self.assertEqual(self.ask(["find n in task"]), [1, 2, 4, 5])
        self.assertEqual(self.ask(["row p in project", "find n in step below p"], rows=(1,)), [1, 2, 5])
        self.base["task", 4].parent = 1
        self.assertEqual(self.ask(["row p in project", "find n in step below p"], rows=(1,)), [1, 2, 4, 5])

    def test_a_found_row_with_the_name_of_a_table(self):
        self.assertEqual(self.ask(["row project in project", "find task in task below project",
                                   "where task.project.owner = project.owner"], rows=(1,)), [2, 5])

    def test_a_returned_list_is_new(self):
        question = Question.read(teams(), "question q\nfind n in team")
        self.base.ask(question, "me", (), ()).clear()
        self.assertEqual(self.base.ask(question, "me", (), ()), [1, 2])


if __name__ == "__main__":
    unittest.main()
