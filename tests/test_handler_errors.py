"""Points 5, 6 and 16 to 20: handlers that can not be read."""

import unittest

from ownersagree.errors import BadLine, DuplicateName, TooMany, UnknownName, WrongCount, WrongTable
from ownersagree.handlers import Handler
from tests.helpers import COLUMNS, PARENTS, AgreeTestCase, chain, teams
from tests.line_forms import BAD_NAMES, HANDLER, QUESTION, has_form, random_lines, spoiled

# The next line is line 9.
KNOWN = ["handler h", "row t in team", "row p in project", "row k in task", "value u", "value v",
         "new n in team with me me", "new m in project under n with me"]
# A line of each form that can stand behind HEAD, and what its words are.
HEAD = ["handler h", "row t in team", "row p in project"]
LINES = {
    "row x in team": "wnwn",
    "value x": "wn",
    "need p.team.owner = me": "wtwt",
    "new x in note with me": "wnwnwt",
    "new x in project under t with 'a'": "wnwnwnwt",
    "move p under t": "wnwn",
    "set t.owner = 'a'": "wcwt",
    "each task below p sets state = t.lead": "wnwnwnwt",
    "take p": "wn",
}


class HandlerErrorCase(AgreeTestCase):
    def read(self, *lines):
        return Handler.read(teams(), "\n".join(lines))

    def check(self, error, *lines):
        """Checks the error of the last line; what stands behind it does not count."""
        self.check_error(error, self.read, *lines)
        self.check_error(error, self.read, *lines, "", "handler h", "need nope = nope")


class FormTest(HandlerErrorCase):
    def test_each_form_is_read(self):
        for line, kinds in LINES.items():
            self.assertEqual(len(line.split(" ")), len(kinds))
            self.read(*HEAD, line)

    def test_each_form_spoiled_at_each_word(self):
        for line, kinds in LINES.items():
            for other in spoiled(line, kinds):
                with self.subTest(line=other):
                    self.assertFalse(has_form(other, HANDLER))
                    self.check(BadLine(4), *HEAD, other)

    def test_the_first_line_spoiled_at_each_word(self):
        for other in spoiled("handler h", "wn"):
            with self.subTest(line=other):
                self.check(BadLine(1), other)

    def test_random_lines(self):
        count = 0
        for line in random_lines(1, 6000):
            fits = has_form(line, HANDLER) and not line.startswith("handler ")
            count += fits
            try:
                self.read("handler h", line)
                error = None
            except (BadLine, DuplicateName, UnknownName, WrongTable, WrongCount) as caught:
                error = caught
            self.assertEqual(isinstance(error, BadLine), not fits, line)
            if error is not None:
                self.assertEqual(error.line, 2, line)
        self.assertTrue(1000 < count < 5000, count)

    def test_forms_of_new_lines_with_more_terms(self):
        for terms in ("me me A", "me  me", "me 'a' 'b", "A me me", "me = me"):
            self.check(BadLine(4), *HEAD, f"new x in team with {terms}")
            self.check(BadLine(4), *HEAD, f"new x in project under t with {terms}")
        self.check(BadLine(4), *HEAD, "new x in team with")
        self.check(BadLine(4), *HEAD, "new x in team")
        self.check(BadLine(4), *HEAD, "new x in project under t with")
        self.check(BadLine(4), *HEAD, "new x in project under t")
        self.check(BadLine(4), *HEAD, "new x in project with me under t,")
        self.check(BadLine(4), *HEAD, "new x in project under t p with me")

    def test_a_changed_position_is_no_form(self):
        self.check(BadLine(5), *HEAD, "row k in task", "set k.project.owner = me")
        self.check(BadLine(4), *HEAD, "set t = me")

    def test_lines_of_schemas_and_questions(self):
        lines = ["root a b", "table a b c", "owner team owner", "follow project owner owner", "question q",
                 "find x in team", "find x in task below p", "where me = me"]
        for line in lines:
            self.check(BadLine(4), *HEAD, line)
            self.check(BadLine(1), line)

    def test_empty_texts_and_lines(self):
        self.check_error(BadLine(1), Handler.read, teams(), "")
        self.check_error(BadLine(1), Handler.read, teams(), "\n")
        self.check_error(BadLine(1), Handler.read, teams(), "\nhandler h")
        self.check_error(BadLine(2), Handler.read, teams(), "handler h\n")
        self.check_error(BadLine(3), Handler.read, teams(), "handler h\nrow t in team\n")
        self.check_error(BadLine(2), Handler.read, teams(), "handler h\n\nrow t in team")

    def test_lines_are_separated_by_newlines_alone(self):
        for sign in ("\r\n", "\r", "\v", "\f", "\x1c", "\x85", "\u2028"):
            self.check_error(BadLine(1), Handler.read, teams(), f"handler h{sign}value u")

    def test_words_are_separated_by_spaces_alone(self):
        for sign in ("\t", "\u00a0", "  "):
            self.check(BadLine(1), f"handler{sign}h")
            self.check(BadLine(2), "handler h", f"value{sign}u")


class PlaceTest(HandlerErrorCase):
    def test_any_other_first_line(self):
        for line in LINES:
            self.check(BadLine(1), line)
            self.check(BadLine(1), line, "handler h")

    def test_a_second_handler_line(self):
        for lines in ([], HEAD[1:], HEAD[1:] + ["need me = me"], HEAD[1:] + ["take t"]):
            self.check(BadLine(len(lines) + 2), "handler h", *lines, "handler h")
            self.check(BadLine(len(lines) + 2), "handler h", *lines, "handler other")

    def test_parameters_behind_a_guard_or_a_change(self):
        for line in list(LINES)[2:]:
            for late in ("row x in team", "value x"):
                self.check(BadLine(5), *HEAD, line, late)

    def test_guards_behind_a_change(self):
        for line in list(LINES)[3:]:
            self.check(BadLine(5), *HEAD, line, "need me = me")

    def test_each_order_of_two_lines(self):
        places = [1, 1, 2, 3, 3, 3, 3, 3, 3]
        for first, before in zip(places, LINES):
            for second, line in zip(places, LINES):
                behind = line.replace(" x", " y")
                if second < first:
                    self.check(BadLine(5), *HEAD, before, behind)
                elif not (before.startswith("row") and behind.startswith("row")):
                    self.read(*HEAD, before, behind)

    def test_the_form_and_the_place_are_checked_before_the_names(self):
        self.check(BadLine(5), *HEAD, "take t", "need nope = nope")
        self.check(BadLine(5), *HEAD, "take t", "row me in nope")
        self.check(BadLine(5), *HEAD, "take t", "value me")
        self.check(BadLine(4), *HEAD, "need nope = nope A")
        self.check(BadLine(4), *HEAD, "new t in nope under nope with nope A")


class LinesTest(HandlerErrorCase):
    def test_the_first_line_with_an_error_raises_it(self):
        wrong = ["need nope = me", "take nope", "new t in team with me me", "new x in team with me", "move t under p"]
        errors = [UnknownName(4, "nope"), UnknownName(4, "nope"), DuplicateName(4, "t"), WrongCount(4),
                  WrongTable(4, "p")]
        for line, error in zip(wrong, errors):
            for behind in wrong + ["A", ""]:
                self.check_error(error, self.read, *HEAD, line, behind)


class NameTest(HandlerErrorCase):
    def test_names_that_are_not_new(self):
        for name in ("t", "p", "k", "u", "v", "n", "m", "me"):
            self.check(DuplicateName(9, name), *KNOWN, f"new {name} in note with me")
        for name in ("t", "p", "u", "me"):
            self.check(DuplicateName(5, name), *HEAD, "value u", f"row {name} in team")
            self.check(DuplicateName(5, name), *HEAD, "value u", f"value {name}")
        self.check(DuplicateName(2, "me"), "handler h", "row me in team")
        self.check(DuplicateName(2, "me"), "handler me", "value me")
        self.check(DuplicateName(2, "me"), "handler me", "new me in note with me")

    def test_a_new_row_defined_twice(self):
        self.check(DuplicateName(3, "x"), "handler h", "new x in note with me", "new x in note with me")
        self.check(DuplicateName(3, "x"), "handler h", "new x in note with me", "new x in team with me me")

    def test_unknown_rows(self):
        for name in ("x", "u", "me", "h", "team", "task", "owner"):
            self.check(UnknownName(9, name), *KNOWN, f"new x in project under {name} with me")
            self.check(UnknownName(9, name), *KNOWN, f"move {name} under p")
            self.check(UnknownName(9, name), *KNOWN, f"move k under {name}")
            self.check(UnknownName(9, name), *KNOWN, f"set {name}.owner = me")
            self.check(UnknownName(9, name), *KNOWN, f"each task below {name} sets state = me")
            self.check(UnknownName(9, name), *KNOWN, f"take {name}")

    def test_new_rows_where_a_row_parameter_must_stand(self):
        for name in ("n", "m"):
            self.check(UnknownName(9, name), *KNOWN, f"move {name} under t")
            self.check(UnknownName(9, name), *KNOWN, f"set {name}.owner = me")
            self.check(UnknownName(9, name), *KNOWN, f"take {name}")
            for term in (name, f"{name}.owner", f"{name}.team.owner"):
                self.check(UnknownName(9, name), *KNOWN, f"set t.owner = {term}")
                self.check(UnknownName(9, name), *KNOWN, f"new x in note with {term}")
                self.check(UnknownName(9, name), *KNOWN, f"each task below t sets state = {term}")

    def test_new_rows_are_known_in_later_lines_alone(self):
        self.check(UnknownName(9, "x"), *KNOWN, "new x in project under x with me")
        self.check(UnknownName(9, "x"), *KNOWN, "new y in project under x with me", "new x in team with me me")
        self.check(UnknownName(9, "x"), *KNOWN, "each task below x sets state = me", "new x in team with me me")
        self.read(*KNOWN, "new x in team with me me", "new y in project under x with me",
                  "each task below y sets state = me", "move p under x")

    def test_unknown_terms(self):
        cases = {
            "x": "x", "h": "h", "team": "team", "t": "t", "k": "k", "x.owner": "x", "u.owner": "u", "me.owner": "me",
            "me.project.owner": "me", "t.state": "state", "t.team": "team", "t.team.owner": "team", "k.lead": "lead",
            "k.project": "project", "k.team.owner": "team", "k.task.owner": "task", "k.project.state": "state",
            "k.project.team": "team", "k.project.team.state": "state", "k.project.project.owner": "project",
            "k.project.team.owner.lead": "owner", "t.me": "me", "h.owner": "h", "team.owner": "team",
            "k.project.team.me": "me", "k.nope.nope": "nope", "nope.nope": "nope", "k.step.owner": "step",
        }
        for term, name in cases.items():
            with self.subTest(term=term):
                for line in (f"need {term} = me", f"need me = {term}", f"need {term} = last",
                             f"new x in note with {term}", f"new x in team with {term} last",
                             f"new x in project under t with {term}",
                             f"set k.owner = {term}", f"each step below t sets owner = {term}"):
                    self.check(UnknownName(7, name), *KNOWN[:6], line)

    def test_terms_from_left_to_right(self):
        self.check(UnknownName(4, "x"), *HEAD, "need x = y")
        self.check(UnknownName(4, "y"), *HEAD, "need t.owner = y")
        self.check(UnknownName(4, "y"), *HEAD, "new x in team with me y")
        self.check(UnknownName(4, "state"), *HEAD, "need t.state = y.y")

    def test_names_of_a_row_line_from_left_to_right(self):
        self.check(DuplicateName(4, "t"), *HEAD, "row t in nope")
        self.check(DuplicateName(4, "me"), *HEAD, "row me in nope")
        self.check(UnknownName(4, "nope"), *HEAD, "row x in nope")
        self.check(UnknownName(4, "owner"), *HEAD, "row x in owner")
        self.check(UnknownName(4, "x"), *HEAD, "row x in x")

    def test_names_of_a_new_line_from_left_to_right(self):
        self.check(DuplicateName(4, "t"), *HEAD, "new t in nope under nope2 with nope3")
        self.check(UnknownName(4, "nope"), *HEAD, "new x in nope under nope2 with nope3")
        self.check(UnknownName(4, "nope2"), *HEAD, "new x in note under nope2 with nope3 me")
        self.check(UnknownName(4, "nope3"), *HEAD, "new x in note under p with me nope3")
        self.check(DuplicateName(4, "t"), *HEAD, "new t in nope with nope")
        self.check(UnknownName(4, "nope"), *HEAD, "new x in nope with nope2")
        self.check(UnknownName(4, "nope2"), *HEAD, "new x in task with nope2")

    def test_names_of_a_move_line_from_left_to_right(self):
        self.check(UnknownName(4, "nope"), *HEAD, "move nope under nope2")
        self.check(UnknownName(4, "nope2"), *HEAD, "move t under nope2")

    def test_names_of_a_set_line_from_left_to_right(self):
        self.check(UnknownName(4, "nope"), *HEAD, "set nope.nope2 = nope3")
        self.check(UnknownName(4, "nope2"), *HEAD, "set t.nope2 = nope3")
        self.check(UnknownName(4, "nope3"), *HEAD, "set t.lead = nope3")
        self.check(UnknownName(4, "lead"), *HEAD, "set p.lead = me")

    def test_names_of_an_each_line_from_left_to_right(self):
        self.check(UnknownName(4, "nope"), *HEAD, "each nope below nope2 sets nope3 = nope4")
        self.check(UnknownName(4, "nope2"), *HEAD, "each team below nope2 sets nope3 = nope4")
        self.check(UnknownName(4, "nope3"), *HEAD, "each team below p sets nope3 = nope4")
        self.check(UnknownName(4, "nope4"), *HEAD, "each team below p sets lead = nope4")
        self.check(UnknownName(4, "state"), *HEAD, "each project below t sets state = me")

    def test_names_before_tables_before_counts_before_limits(self):
        deeds = ["take p"] * 8
        self.check(UnknownName(12, "nope"), *HEAD, *deeds, "new x in note under p with nope me")
        self.check(WrongTable(12, "p"), *HEAD, *deeds, "new x in note under p with me me")
        self.check(WrongTable(12, "task"), *HEAD, *deeds, "new x in task with me me me")
        self.check(WrongCount(12), *HEAD, *deeds, "new x in note with me me")
        self.check(TooMany(12), *HEAD, *deeds, "new x in note with me")
        self.check(WrongTable(12, "p"), *HEAD, *deeds, "move t under p")
        self.check(WrongTable(12, "team"), *HEAD, *deeds, "each team below t sets owner = me")


class TableTest(HandlerErrorCase):
    def test_new_in_each_table_without_a_row(self):
        for table, columns in COLUMNS.items():
            line = f"new x in {table} with {' '.join(['me'] * len(columns))}"
            if PARENTS[table] is None:
                self.read("handler h", line)
            else:
                self.check(WrongTable(2, table), "handler h", line)

    def test_new_in_each_table_under_a_row_of_each_table(self):
        for table, columns in COLUMNS.items():
            for other in COLUMNS:
                lines = ["handler h", f"row x in {other}",
                         f"new n in {table} under x with {' '.join(['me'] * len(columns))}"]
                if PARENTS[table] == other:
                    self.read(*lines)
                else:
                    self.check(WrongTable(3, "x"), *lines)

    def test_new_under_a_new_row_of_each_table(self):
        for table, columns in COLUMNS.items():
            for other in ("team", "note"):
                lines = ["handler h", f"new x in {other} with {' '.join(['me'] * len(COLUMNS[other]))}",
                         f"new n in {table} under x with {' '.join(['me'] * len(columns))}"]
                if PARENTS[table] == other:
                    self.read(*lines)
                else:
                    self.check(WrongTable(3, "x"), *lines)

    def test_move_of_each_table_under_a_row_of_each_table(self):
        for table in COLUMNS:
            for other in COLUMNS:
                lines = ["handler h", f"row x in {table}", f"row y in {other}", "move x under y"]
                if PARENTS[table] == other:
                    self.read(*lines)
                else:
                    self.check(WrongTable(4, "y"), *lines)

    def test_move_under_itself_and_under_new_rows(self):
        self.check(WrongTable(9, "p"), *KNOWN, "move p under p")
        self.check(WrongTable(9, "m"), *KNOWN, "move p under m")
        self.check(WrongTable(9, "n"), *KNOWN, "move k under n")
        self.check(WrongTable(9, "n"), *KNOWN, "move t under n")
        self.read(*KNOWN, "move p under n", "move k under m")

    def test_each_of_each_table_below_a_row_of_each_table(self):
        for table in COLUMNS:
            for other in COLUMNS:
                lines = ["handler h", f"row x in {other}", f"each {table} below x sets {COLUMNS[table][0]} = me"]
                if other in chain(table)[1:]:
                    self.read(*lines)
                else:
                    self.check(WrongTable(3, table), *lines)

    def test_each_below_new_rows(self):
        for name, above in (("n", "team"), ("m", "project")):
            for table in COLUMNS:
                line = f"each {table} below {name} sets {COLUMNS[table][0]} = me"
                if above in chain(table)[1:]:
                    self.read(*KNOWN, line)
                else:
                    self.check(WrongTable(9, table), *KNOWN, line)


class CountTest(HandlerErrorCase):
    def test_one_term_for_each_column(self):
        under = {"project": " under t", "task": " under p", "step": " under k", "remark": " under a"}
        for table, columns in COLUMNS.items():
            for count in range(1, 7):
                head = KNOWN[:4]
                if table == "remark":
                    head = ["handler h", "row x in note", "row y in note", "row a in note"]
                lines = [*head, f"new z in {table}{under.get(table, '')} with {' '.join(['me'] * count)}"]
                if count == len(columns):
                    self.read(*lines)
                else:
                    self.check(WrongCount(5), *lines)


class LimitTest(HandlerErrorCase):
    def test_rows(self):
        rows = [f"row r{index} in team" for index in range(3)]
        self.read("handler h", *rows, "value u")
        self.check(TooMany(5), "handler h", *rows, "row x in team")
        self.check(TooMany(6), "handler h", *rows, "value u", "row x in team")
        self.check(DuplicateName(5, "r0"), "handler h", *rows, "row r0 in team")
        self.check(UnknownName(5, "nope"), "handler h", *rows, "row x in nope")

    def test_values(self):
        values = [f"value v{index}" for index in range(4)]
        self.read("handler h", *values, "row t in team")
        self.check(TooMany(6), "handler h", *values, "value x")
        self.check(TooMany(7), "handler h", *values, "row t in team", "value x")
        self.check(DuplicateName(6, "v0"), "handler h", *values, "value v0")

    def test_guards(self):
        self.read("handler h", *["need me = me"] * 8, "new n in note with me")
        self.check(TooMany(10), "handler h", *["need me = me"] * 9)
        self.check(UnknownName(10, "x"), "handler h", *["need me = me"] * 8, "need x = me")

    def test_changes_of_each_form(self):
        lines = ["set t.owner = me", "take t", "each task below t sets state = me", "move p under t",
                 "new x in note with me", "new y in project under t with me"]
        eight = ["set t.lead = me", "take p"] * 4
        self.read(*HEAD, *eight)
        for line in lines:
            self.check(TooMany(12), *HEAD, *eight, line)
            self.read(*HEAD, *eight[1:], line)


class QuestionWordsTest(HandlerErrorCase):
    def test_no_line_of_a_question_alone_is_read(self):
        for line in random_lines(2, 500):
            if has_form(line, QUESTION) and not has_form(line, HANDLER):
                self.check(BadLine(2), "handler h", line)

    def test_names_of_wrong_forms(self):
        for name in BAD_NAMES:
            self.check(BadLine(1), f"handler {name}")


if __name__ == "__main__":
    unittest.main()
