"""Points 2, 5, 6, 17, 18, 20 and 55: questions."""

import unittest

from ownersagree.errors import BadLine, DuplicateName, TooMany, UnknownName, WrongTable
from ownersagree.questions import Question
from ownersagree.schemas import Schema
from tests.helpers import COLUMNS, AgreeTestCase, chain, teams
from tests.line_forms import HANDLER, QUESTION, has_form, random_lines, spoiled

HEAD = ["question q", "row t in team", "row p in project", "value u"]
LINES = {
    "row x in team": "wnwn",
    "value x": "wn",
    "find x in task": "wnwn",
    "find x in task below p": "wnwnwn",
}


class QuestionCase(AgreeTestCase):
    def read(self, *lines):
        return Question.read(teams(), "\n".join(lines))

    def check(self, error, *lines):
        """Checks the error of the last line; what stands behind it does not count."""
        self.check_error(error, self.read, *lines)
        self.check_error(error, self.read, *lines, "", "question q", "where nope = nope")


class ReadTest(QuestionCase):
    def test_all_forms(self):
        schema = teams()
        text = "\n".join(["question mine", "value u", "row p in project", "row t in team", "value v",
                          "find n in task below p", "where n.owner = me", "where n.project.team.lead = u",
                          "where p.owner = 'a'", "where v = t.owner"])
        question = Question.read(schema, text)
        self.assertIsInstance(question, Question)
        self.assertEqual((question.name, question.text), ("mine", text))
        self.assertIs(question.schema, schema)
        self.assertEqual(question.row_parameters(), [("p", "project"), ("t", "team")])
        self.assertEqual(question.value_parameters(), ["u", "v"])
        self.assertEqual(question.found(), ("n", "task", "p"))
        self.assertEqual(question.conditions(), [
            ("n.owner", "me"), ("n.project.team.lead", "u"), ("p.owner", "'a'"), ("v", "t.owner")])

    def test_kinds_of_what_is_returned(self):
        question = self.read(*HEAD, "find n in task", "where n.owner = me")
        self.assertIs(type(question.found()), tuple)
        for pair in question.row_parameters() + question.conditions():
            self.assertIs(type(pair), tuple)
        for listed in (question.row_parameters(), question.value_parameters(), question.conditions()):
            self.assertIs(type(listed), list)

    def test_the_shortest_question(self):
        question = self.read("question q", "find n in note")
        self.assertEqual((question.row_parameters(), question.value_parameters()), ([], []))
        self.assertEqual((question.found(), question.conditions()), (("n", "note", None), []))

    def test_the_found_row_is_no_row_parameter(self):
        question = self.read("question q", "row t in team", "find n in team")
        self.assertEqual(question.row_parameters(), [("t", "team")])

    def test_names_that_are_words_of_the_forms(self):
        question = self.read("question question", "row below in team", "row in in project", "value where",
                             "find find in task below below", "where where = where", "where in.owner = find.state")
        self.assertEqual(question.name, "question")
        self.assertEqual(question.row_parameters(), [("below", "team"), ("in", "project")])
        self.assertEqual(question.found(), ("find", "task", "below"))
        self.assertEqual(question.conditions(), [("where", "where"), ("in.owner", "find.state")])
        self.assertEqual(self.read("question q", "find in in task").found(), ("in", "task", None))

    def test_names_of_tables_of_columns_and_of_the_question(self):
        question = self.read("question q", "row team in team", "value owner", "value q", "find task in task below team",
                             "where task.owner = owner", "where task.project.team.owner = q")
        self.assertEqual(question.found(), ("task", "task", "team"))

    def test_questions_tables_and_columns_called_me(self):
        schema = Schema.read("root me me\ntable task me me")
        question = Question.read(schema, "question me\nrow x in me\nfind n in task below x\nwhere n.me.me = me")
        self.assertEqual((question.name, question.found()), ("me", ("n", "task", "x")))
        self.assertEqual(Question.read(schema, "question q\nfind n in me").found(), ("n", "me", None))

    def test_two_questions_in_turn(self):
        first = self.read("question a", "row x in team", "find y in task", "where y.state = me")
        second = self.read("question b", "value y", "find x in team", "where x.lead = y")
        self.assertEqual((first.name, second.name), ("a", "b"))
        self.assertEqual((first.row_parameters(), second.row_parameters()), ([("x", "team")], []))
        self.assertEqual((first.found(), second.found()), (("y", "task", None), ("x", "team", None)))
        self.assertEqual((first.conditions(), second.conditions()), ([("y.state", "me")], [("x.lead", "y")]))

    def test_changing_a_returned_list_has_no_effect(self):
        question = self.read(*HEAD, "find n in task", "where n.owner = me")
        for method in (question.row_parameters, question.value_parameters, question.conditions):
            before = list(method())
            method().clear()
            method().append("more")
            self.assertEqual(method(), before)

    def test_the_limits_are_reached(self):
        rows = [f"row r{index} in team" for index in range(3)]
        values = [f"value v{index}" for index in range(4)]
        question = self.read("question q", *rows, *values, "find n in task below r0", *["where me = me"] * 8)
        self.assertEqual((len(question.row_parameters()), len(question.value_parameters())), (3, 4))
        self.assertEqual(len(question.conditions()), 8)


class FormTest(QuestionCase):
    def test_each_form_spoiled_at_each_word(self):
        for line, kinds in LINES.items():
            self.assertTrue(has_form(line, QUESTION))
            for other in spoiled(line, kinds):
                with self.subTest(line=other):
                    self.check(BadLine(5), *HEAD, other)

    def test_conditions_spoiled_at_each_word(self):
        for line in ("where me = n.owner", "where 'a' = u", "where t.owner = n.project.owner"):
            self.read(*HEAD, "find n in task", line)
            for other in spoiled(line, "wtwt"):
                with self.subTest(line=other):
                    self.check(BadLine(6), *HEAD, "find n in task", other)

    def test_the_first_line_spoiled_at_each_word(self):
        for other in spoiled("question q", "wn"):
            with self.subTest(line=other):
                self.check(BadLine(1), other)

    def test_random_lines(self):
        for line in random_lines(3, 4000):
            fits = has_form(line, QUESTION) and not line.startswith("question ")
            before = ["question q"] + ["find nn in note"] * line.startswith("where ")
            behind = [] if line.startswith(("where ", "find ")) else ["find nn in note"]
            try:
                self.read(*before, line, *behind)
                error = None
            except (BadLine, DuplicateName, UnknownName, WrongTable) as caught:
                error = caught
            self.assertEqual(isinstance(error, BadLine), not fits, line)
            if error is not None:
                self.assertEqual(error.line, len(before) + 1, line)

    def test_a_found_line_with_more_or_fewer_words(self):
        for line in ("find n in task below", "find n in task p", "find n in task below p p", "find n in",
                     "find n in task under p", "find n task", "find n in task with me", "find n in task below p.owner"):
            self.check(BadLine(5), *HEAD, line)

    def test_lines_of_handlers(self):
        for line in ("handler h", "need me = me", "new n in note with me", "move p under t", "set p.owner = me",
                     "each task below p sets owner = me", "take p"):
            self.check(BadLine(1), line)
            self.check(BadLine(5), *HEAD, line)
            self.check(BadLine(6), *HEAD, "find n in task", line)

    def test_no_line_of_a_handler_alone_is_read(self):
        for line in random_lines(4, 500):
            if has_form(line, HANDLER) and not has_form(line, QUESTION):
                self.check(BadLine(2), "question q", line)

    def test_empty_texts_and_lines(self):
        self.check_error(BadLine(1), Question.read, teams(), "")
        self.check_error(BadLine(1), Question.read, teams(), "\nquestion q")
        self.check_error(BadLine(2), Question.read, teams(), "question q\n")
        self.check_error(BadLine(3), Question.read, teams(), "question q\nfind n in note\n")
        self.check_error(BadLine(2), Question.read, teams(), "question q\n\nfind n in note")
        self.check_error(BadLine(1), Question.read, teams(), "question q\r\nfind n in note")


class PlaceTest(QuestionCase):
    def test_another_first_line(self):
        for line in list(LINES) + ["where me = me"]:
            self.check(BadLine(1), line)
            self.check(BadLine(1), line, "question q")

    def test_a_second_question_line(self):
        self.check(BadLine(2), "question q", "question q")
        self.check(BadLine(5), *HEAD, "question other")
        self.check(BadLine(6), *HEAD, "find n in task", "question q")

    def test_no_find_line(self):
        self.check_error(BadLine(2), self.read, "question q")
        self.check_error(BadLine(5), self.read, *HEAD)
        self.check_error(BadLine(3), self.read, "question q", "value u")

    def test_an_earlier_error_comes_before_the_missing_find_line(self):
        self.check_error(UnknownName(2, "nope"), self.read, "question q", "row x in nope")
        self.check_error(BadLine(2), self.read, "question q", "where me = me")

    def test_a_second_find_line(self):
        self.check(BadLine(6), *HEAD, "find n in task", "find n in task")
        self.check(BadLine(6), *HEAD, "find n in task", "find m in team")
        self.check(BadLine(7), *HEAD, "find n in task", "where me = me", "find m in task below t")

    def test_a_condition_before_the_find_line(self):
        self.check(BadLine(2), "question q", "where me = me")
        self.check(BadLine(5), *HEAD, "where u = u")

    def test_parameters_behind_the_find_line(self):
        for late in ("row x in team", "value x", "row me in nope"):
            self.check(BadLine(6), *HEAD, "find n in task", late)
            self.check(BadLine(7), *HEAD, "find n in task", "where me = me", late)

    def test_the_form_and_the_place_are_checked_before_the_names(self):
        self.check(BadLine(2), "question q", "where nope = nope")
        self.check(BadLine(6), *HEAD, "find n in task", "find t in nope below nope")
        self.check(BadLine(5), *HEAD, "find t in nope below NOPE")


class NameTest(QuestionCase):
    def test_names_that_are_not_new(self):
        for name in ("t", "p", "u", "me"):
            self.check(DuplicateName(5, name), *HEAD, f"row {name} in nope")
            self.check(DuplicateName(5, name), *HEAD, f"value {name}")
            self.check(DuplicateName(5, name), *HEAD, f"find {name} in nope below nope")

    def test_unknown_tables_and_rows(self):
        self.check(UnknownName(5, "nope"), *HEAD, "row x in nope")
        self.check(UnknownName(5, "nope"), *HEAD, "find n in nope below nope2")
        self.check(UnknownName(5, "nope2"), *HEAD, "find n in task below nope2")
        for name in ("u", "me", "team", "q", "x"):
            self.check(UnknownName(5, name), *HEAD, f"find n in task below {name}")

    def test_the_found_row_behind_below(self):
        self.check(UnknownName(5, "n"), *HEAD, "find n in task below n")
        self.check(UnknownName(5, "n"), *HEAD, "find n in team below n")

    def test_terms(self):
        cases = {"x": "x", "n": "n", "t": "t", "q": "q", "me.owner": "me", "u.owner": "u", "n.lead": "lead",
                 "n.team.owner": "team", "n.project": "project", "n.project.state": "state",
                 "n.project.team.text": "text", "t.state": "state", "x.owner": "x", "task": "task",
                 "task.owner": "task", "n.step.owner": "step"}
        for term, name in cases.items():
            with self.subTest(term=term):
                self.check(UnknownName(6, name), *HEAD, "find n in task", f"where {term} = me")
                self.check(UnknownName(6, name), *HEAD, "find n in task", f"where me = {term}")
                self.check(UnknownName(6, name), *HEAD, "find n in task", f"where {term} = last")

    def test_the_found_row_is_read_like_a_row_parameter(self):
        for term in ("n.owner", "n.state", "n.project.owner", "n.project.team.owner", "n.project.team.lead"):
            question = self.read(*HEAD, "find n in task", f"where {term} = u", f"where t.lead = {term}")
            self.assertEqual(question.conditions(), [(term, "u"), ("t.lead", term)])


class TableTest(QuestionCase):
    def test_each_table_below_a_row_of_each_table(self):
        for table in COLUMNS:
            for other in COLUMNS:
                lines = ["question q", f"row x in {other}", f"find n in {table} below x"]
                if other in chain(table)[1:]:
                    self.assertEqual(self.read(*lines).found(), ("n", table, "x"))
                else:
                    self.check(WrongTable(3, "x"), *lines)


class LimitTest(QuestionCase):
    def test_one_row_more(self):
        rows = [f"row r{index} in team" for index in range(3)]
        self.check(TooMany(5), "question q", *rows, "row x in team")
        self.check(TooMany(6), "question q", *rows, "value u", "row x in team")
        self.check(UnknownName(5, "nope"), "question q", *rows, "row x in nope")
        self.check(DuplicateName(5, "r1"), "question q", *rows, "row r1 in team")

    def test_the_found_row_does_not_count(self):
        rows = [f"row r{index} in team" for index in range(3)]
        self.assertEqual(len(self.read("question q", *rows, "find n in team").row_parameters()), 3)

    def test_one_value_more(self):
        values = [f"value v{index}" for index in range(4)]
        self.check(TooMany(6), "question q", *values, "value x")
        self.check(DuplicateName(6, "v1"), "question q", *values, "value v1")

    def test_one_condition_more(self):
        lines = ["question q", "find n in note"] + ["where me = me"] * 8
        self.check(TooMany(11), *lines, "where me = me")
        self.check(UnknownName(11, "x"), *lines, "where x = me")


if __name__ == "__main__":
    unittest.main()
