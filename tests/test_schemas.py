"""Points 2, 3 and 5 to 11: schemas."""

import unittest

from ownersagree.errors import BadLine, DuplicateName, TooMany, UnknownName
from ownersagree.schemas import Schema

TEAMS = "\n".join([
    "root team owner lead",
    "table project team owner",
    "owner project team.lead",
    "table task project owner state lead",
    "follow task lead owner",
    "root note text",
    "follow task owner owner",
    "owner note text",
    "owner task project.team.owner",
])
# Tables for the lines that are wrong; the next line is line 4.
THREE = "root team owner lead\ntable project team owner\ntable task project owner state"


class SchemaTestCase(unittest.TestCase):
    def check(self, error, text):
        """Checks that reading raises the error, with the same attributes."""
        with self.assertRaises(type(error)) as caught:
            Schema.read(text)
        self.assertEqual(vars(caught.exception), vars(error), text)

    def check_line(self, error, line):
        """Checks the error of a line that stands behind THREE."""
        self.check(error, f"{THREE}\n{line}")
        # The first line with an error raises it, whatever stands behind it.
        self.check(error, f"{THREE}\n{line}\n\nroot team owner")


class ReadTest(SchemaTestCase):
    def test_tables(self):
        self.assertEqual(Schema.read(TEAMS).tables(), ["team", "project", "task", "note"])

    def test_columns(self):
        schema = Schema.read(TEAMS)
        self.assertEqual(schema.columns("team"), ["owner", "lead"])
        self.assertEqual(schema.columns("project"), ["owner"])
        self.assertEqual(schema.columns("task"), ["owner", "state", "lead"])
        self.assertEqual(schema.columns("note"), ["text"])

    def test_parent_of(self):
        schema = Schema.read(TEAMS)
        parents = [schema.parent_of(table) for table in schema.tables()]
        self.assertEqual(parents, [None, "team", "project", None])

    def test_chain_of(self):
        schema = Schema.read(TEAMS)
        self.assertEqual(schema.chain_of("task"), ["task", "project", "team"])
        self.assertEqual(schema.chain_of("project"), ["project", "team"])
        self.assertEqual(schema.chain_of("team"), ["team"])
        self.assertEqual(schema.chain_of("note"), ["note"])

    def test_positions(self):
        schema = Schema.read(TEAMS)
        self.assertEqual(schema.positions("task"), [
            "owner", "state", "lead", "project.owner", "project.team.owner", "project.team.lead",
        ])
        self.assertEqual(schema.positions("project"), ["owner", "team.owner", "team.lead"])
        self.assertEqual(schema.positions("team"), ["owner", "lead"])
        self.assertEqual(schema.positions("note"), ["text"])

    def test_positions_keep_the_order_of_the_columns(self):
        schema = Schema.read("root z y a x\ntable b z c b a\ntable y b z")
        self.assertEqual(schema.positions("z"), ["y", "a", "x"])
        self.assertEqual(schema.positions("b"), ["c", "b", "a", "z.y", "z.a", "z.x"])
        self.assertEqual(schema.positions("y"), ["z", "b.c", "b.b", "b.a", "b.z.y", "b.z.a", "b.z.x"])

    def test_owner_of(self):
        schema = Schema.read(TEAMS)
        owners = [schema.owner_of(table) for table in schema.tables()]
        self.assertEqual(owners, [None, "team.lead", "project.team.owner", "text"])

    def test_follows_in_the_order_of_the_columns(self):
        schema = Schema.read(TEAMS)
        self.assertEqual(schema.follows("task"), [("owner", "owner"), ("lead", "owner")])
        self.assertEqual(schema.follows("project"), [])
        self.assertEqual(schema.follows("team"), [])

    def test_follows_tells_the_column_of_the_parent_table(self):
        schema = Schema.read("root a x y\ntable b a x y z\nfollow b z x\nfollow b y x\nfollow b x y")
        self.assertEqual(schema.follows("b"), [("x", "y"), ("y", "x"), ("z", "x")])

    def test_a_column_that_follows_may_be_followed(self):
        schema = Schema.read("root a x\ntable b a y\nfollow b y x\ntable c b z\nfollow c z y")
        self.assertEqual((schema.follows("b"), schema.follows("c")), ([("y", "x")], [("z", "y")]))

    def test_a_table_may_have_the_name_of_a_column_and_of_a_form(self):
        schema = Schema.read("root root root\ntable table root table root\n"
                             "owner table root.root\nfollow table root root")
        self.assertEqual(schema.tables(), ["root", "table"])
        self.assertEqual(schema.positions("table"), ["table", "root", "root.root"])
        self.assertEqual(schema.owner_of("table"), "root.root")
        self.assertEqual(schema.follows("table"), [("root", "root")])

    def test_a_position_with_a_column_that_has_the_name_of_the_parent_table(self):
        schema = Schema.read("root a a\ntable b a a\nowner a a\nowner b a\ntable c b b\nowner c b.a.a")
        self.assertEqual([schema.owner_of(table) for table in "abc"], ["a", "a", "b.a.a"])

    def test_names_of_one_and_of_twelve_characters(self):
        schema = Schema.read("root abcdefghijkl m23456789012 x")
        self.assertEqual(schema.tables(), ["abcdefghijkl"])
        self.assertEqual(schema.columns("abcdefghijkl"), ["m23456789012", "x"])

    def test_text(self):
        self.assertEqual(Schema.read(TEAMS).text, TEAMS)

    def test_equal_if_the_texts_are_equal(self):
        self.assertTrue(Schema.read(TEAMS) == Schema.read(TEAMS))
        self.assertFalse(Schema.read(TEAMS) != Schema.read(TEAMS))

    def test_not_equal_if_the_texts_differ(self):
        first, second = Schema.read("root a x\nroot b x"), Schema.read("root b x\nroot a x")
        self.assertFalse(first == second)
        self.assertTrue(first != second)

    def test_not_equal_to_what_is_no_schema(self):
        for other in (TEAMS, None, 3, [TEAMS]):
            self.assertFalse(Schema.read(TEAMS) == other)
            self.assertFalse(other == Schema.read(TEAMS))

    def test_class_values(self):
        self.assertEqual((Schema.MOST_TABLES, Schema.MOST_COLUMNS, Schema.LONGEST_CHAIN), (6, 4, 4))

    def test_two_schemas_in_turn(self):
        first = Schema.read("root a x\ntable b a x\nowner b x\nfollow b x x")
        second = Schema.read("root b y\ntable a b x z")
        self.assertEqual((first.tables(), second.tables()), (["a", "b"], ["b", "a"]))
        self.assertEqual((first.positions("b"), second.positions("b")), (["x", "a.x"], ["y"]))
        self.assertEqual((first.positions("a"), second.positions("a")), (["x"], ["x", "z", "b.y"]))
        self.assertEqual((first.owner_of("b"), second.owner_of("b")), ("x", None))
        self.assertEqual((first.follows("b"), second.follows("a")), ([("x", "x")], []))
        self.assertEqual((first.parent_of("a"), second.parent_of("a")), (None, "b"))

    def test_a_schema_after_one_that_could_not_be_read(self):
        self.check(BadLine(2), "root a x\nroot")
        self.assertEqual(Schema.read("root a y").positions("a"), ["y"])


class AnswerTest(SchemaTestCase):
    def test_changing_a_returned_list_has_no_effect(self):
        schema = Schema.read(TEAMS)
        answers = [
            lambda: schema.tables(), lambda: schema.columns("task"), lambda: schema.chain_of("task"),
            lambda: schema.positions("task"), lambda: schema.follows("task"), lambda: schema.positions("team"),
            lambda: schema.chain_of("team"), lambda: schema.columns("team"),
        ]
        for at, answer in enumerate(answers):
            with self.subTest(at=at):
                before = list(answer())
                found = answer()
                found.append("more")
                found[0] = "other"
                self.assertEqual(answer(), before)
        self.assertEqual(schema.positions("task"), Schema.read(TEAMS).positions("task"))

    def test_unknown_tables(self):
        schema = Schema.read(TEAMS)
        for table in ["", "owner", "state", "tasks", "Task", " task", "project.team", "team.owner"]:
            for method in [schema.columns, schema.parent_of, schema.chain_of, schema.positions, schema.owner_of,
                           schema.follows]:
                with self.subTest(table=table, method=method.__name__):
                    with self.assertRaises(UnknownName) as caught:
                        method(table)
                    self.assertEqual((caught.exception.line, caught.exception.name), (0, table))

    def test_an_unknown_table_has_no_effect(self):
        schema = Schema.read(TEAMS)
        with self.assertRaises(UnknownName):
            schema.owner_of("more")
        self.assertEqual(schema.tables(), ["team", "project", "task", "note"])
        with self.assertRaises(UnknownName):
            schema.columns("more")


class FormTest(SchemaTestCase):
    def test_the_empty_text(self):
        self.check(BadLine(1), "")

    def test_an_empty_line(self):
        self.check(BadLine(1), "\nroot a x")
        self.check(BadLine(2), "root a x\n\nroot b x")
        self.check(BadLine(1), "\n")

    def test_an_empty_last_line(self):
        self.check(BadLine(2), "root a x\n")
        self.check(BadLine(4), f"{THREE}\n")

    def test_a_space_too_many_at_each_place(self):
        for line in ["root b x y", "table b task x y", "owner task project.owner", "follow task owner owner"]:
            words = line.split(" ")
            for at in range(len(words) + 1):
                spaced = " ".join(words[:at] + [""] + words[at:])
                self.check_line(BadLine(4), spaced)
        self.check_line(BadLine(4), " ")
        self.check_line(BadLine(4), "   ")

    def test_words_missing(self):
        for line in ["root", "root b", "table", "table b", "table b task", "owner", "owner task", "follow",
                     "follow task", "follow task owner"]:
            self.check_line(BadLine(4), line)

    def test_words_too_many(self):
        for line in ["owner task owner state", "follow task owner owner owner"]:
            self.check_line(BadLine(4), line)

    def test_another_first_word(self):
        for line in ["roots b x", "Root b x", "b x", "tables b task x", "own task owner", "owners task owner",
                     "following task owner owner", "handler b", "task", "row x in task", "# root b x"]:
            self.check_line(BadLine(4), line)

    def test_wrong_names_at_each_place(self):
        for bad in ["", "B", "bB", "1b", "0", "b_", "_b", "b-c", "b,", "'b'", "abcdefghijklm", "b\t", "\tb", "b\r",
                    "\u00e9", "b\u00b2", "\u0661", "b\u00a0c", "b\x0b", "b\u2028c"]:
            for form in ["root {} x", "root b {}", "root b x {}", "root b {} x", "table {} task x", "table b {} x",
                         "table b task {}", "table b task x {}", "owner {} owner", "owner task {}",
                         "owner task project.{}", "owner task {}.owner", "follow {} owner owner",
                         "follow task {} owner", "follow task owner {}"]:
                self.check_line(BadLine(4), form.format(bad))

    def test_a_position_where_a_name_must_stand(self):
        for line in ["root b.c x", "root b x.y", "table b task.project x", "owner project.task owner",
                     "follow task project.owner owner", "follow task owner project.owner"]:
            self.check_line(BadLine(4), line)

    def test_dots(self):
        for position in [".", ".owner", "owner.", "project..owner", "..owner", "project.owner.", ".project.owner"]:
            self.check_line(BadLine(4), f"owner task {position}")

    def test_other_characters_between_words_and_lines(self):
        for line in ["root\tb x", "root b\tx", "root b,x", "root b x;", "owner task project/owner"]:
            self.check_line(BadLine(4), line)
        self.check(BadLine(1), "root a x\r\nroot b x")
        self.check(BadLine(1), "root a x\rroot b x")
        self.check(BadLine(1), "root a x\x0croot b x")

    def test_the_number_of_the_line(self):
        for number in range(1, 5):
            lines = ["root a x", "root b x", "root c x", "root d x"]
            lines[number - 1] = "root"
            self.check(BadLine(number), "\n".join(lines))


class NameTest(SchemaTestCase):
    def test_a_known_table(self):
        self.check_line(DuplicateName(4, "team"), "root team x")
        self.check_line(DuplicateName(4, "task"), "root task x")
        self.check_line(DuplicateName(4, "project"), "table project team x")

    def test_an_unknown_parent(self):
        for parent in ["teams", "owner", "b"]:
            self.check_line(UnknownName(4, parent), f"table b {parent} x")

    def test_a_parent_that_is_defined_in_a_later_line(self):
        self.check(UnknownName(2, "c"), "root a x\ntable b c x\nroot c x")

    def test_a_column_twice(self):
        self.check_line(DuplicateName(4, "x"), "root b x x")
        self.check_line(DuplicateName(4, "y"), "root b x y y x")
        self.check_line(DuplicateName(4, "x"), "table b task x y x")

    def test_names_of_a_table_line_from_left_to_right(self):
        self.check_line(DuplicateName(4, "team"), "table team b x x")
        self.check_line(DuplicateName(4, "team"), "root team x x")
        self.check_line(UnknownName(4, "c"), "table b c x x")

    def test_an_owner_line_of_an_unknown_table(self):
        for table in ["b", "owner", "state"]:
            self.check_line(UnknownName(4, table), f"owner {table} owner")
            self.check_line(UnknownName(4, table), f"owner {table} wrong.wrong")

    def test_a_second_owner_line(self):
        self.check(DuplicateName(5, "task"), f"{THREE}\nowner task owner\nowner task owner")
        self.check(DuplicateName(5, "task"), f"{THREE}\nowner task owner\nowner task wrong.wrong")
        self.check(UnknownName(5, "b"), f"{THREE}\nowner task owner\nowner b wrong")

    def test_a_wrong_name_at_each_place_of_a_position(self):
        for position, name in [
            ("lead", "lead"), ("project", "project"), ("task", "task"), ("b", "b"),
            ("team.owner", "team"), ("task.owner", "task"), ("owner.owner", "owner"), ("b.c", "b"),
            ("project.state", "state"), ("project.lead", "lead"), ("project.team", "team"), ("project.b", "b"),
            ("project.project.owner", "project"), ("project.owner.owner", "owner"), ("b.team.c", "b"),
            ("project.b.c", "b"), ("project.team.state", "state"), ("project.team.project", "project"),
            ("project.team.team.owner", "team"), ("project.team.root.owner", "root"), ("project.team.none.x", "none"),
        ]:
            self.check_line(UnknownName(4, name), f"owner task {position}")

    def test_a_position_of_a_root_table(self):
        for position, name in [("state", "state"), ("team.owner", "team"), ("project.owner", "project")]:
            self.check_line(UnknownName(4, name), f"owner team {position}")

    def test_a_follow_line_with_an_unknown_table_or_column(self):
        self.check_line(UnknownName(4, "b"), "follow b c d")
        self.check_line(UnknownName(4, "owner"), "follow owner owner owner")
        self.check_line(UnknownName(4, "lead"), "follow task lead wrong")
        self.check_line(UnknownName(4, "project"), "follow task project owner")

    def test_a_second_follow_line(self):
        self.check(DuplicateName(5, "owner"), f"{THREE}\nfollow task owner owner\nfollow task owner owner")
        self.check(DuplicateName(5, "owner"), f"{THREE}\nfollow task owner owner\nfollow task owner wrong")
        self.check(UnknownName(5, "b"), f"{THREE}\nfollow task owner owner\nfollow task b owner")
        self.check(UnknownName(5, "b"), f"{THREE}\nfollow task owner owner\nfollow b owner owner")

    def test_the_same_column_of_two_tables_may_follow(self):
        schema = Schema.read(f"{THREE}\nfollow task owner owner\nfollow project owner lead")
        self.assertEqual(schema.follows("task"), [("owner", "owner")])
        self.assertEqual(schema.follows("project"), [("owner", "lead")])

    def test_a_wrong_parent_column(self):
        self.check_line(UnknownName(4, "state"), "follow task state state")
        self.check_line(UnknownName(4, "lead"), "follow task owner lead")
        self.check_line(UnknownName(4, "project"), "follow task owner project")

    def test_a_root_table_has_no_parent_column(self):
        self.check_line(UnknownName(4, "lead"), "follow team owner lead")
        self.check_line(UnknownName(4, "owner"), "follow team owner owner")

    def test_a_line_for_a_table_that_is_defined_in_a_later_line(self):
        self.check(UnknownName(1, "a"), "owner a x\nroot a x")
        self.check(UnknownName(2, "b"), "root a x\nfollow b x x\ntable b a x")

    def test_the_form_comes_before_the_names(self):
        self.check_line(BadLine(4), "root team X")
        self.check_line(BadLine(4), "table b wrong x.y")
        self.check_line(BadLine(4), "owner wrong owner.")
        self.check_line(BadLine(4), "follow wrong wrong Wrong")
        self.check_line(BadLine(4), "root b x x ")

    def test_the_first_line_with_an_error_raises_it(self):
        self.check(DuplicateName(2, "a"), "root a x\nroot a x\nroot b")
        self.check(UnknownName(2, "b"), "root a x\nowner b x\n")
        self.check(TooMany(1), "root a v w x y z\nroot b")
        self.check(BadLine(1), "root a\nroot b x x")


class LimitTest(SchemaTestCase):
    SIX = "root a x\nroot b x\ntable c a x\nroot d x\ntable e b x\nroot f x"
    FOUR = "root a x\ntable b a x\ntable c b x\ntable d c x"

    def test_six_tables(self):
        self.assertEqual(Schema.read(self.SIX).tables(), ["a", "b", "c", "d", "e", "f"])
        self.assertEqual(Schema.read(f"{self.SIX}\nowner f x").owner_of("f"), "x")

    def test_seven_tables(self):
        self.check(TooMany(7), f"{self.SIX}\nroot g x")
        self.check(TooMany(7), f"{self.SIX}\ntable g e x")
        self.check(TooMany(8), f"{self.SIX}\nowner a x\nroot g x")

    def test_a_chain_of_four(self):
        schema = Schema.read(f"{self.FOUR}\ntable e c x")
        self.assertEqual(schema.chain_of("d"), ["d", "c", "b", "a"])
        self.assertEqual(schema.positions("e"), ["x", "c.x", "c.b.x", "c.b.a.x"])

    def test_a_chain_of_five(self):
        self.check(TooMany(5), f"{self.FOUR}\ntable e d x")

    def test_four_columns(self):
        schema = Schema.read("root a u v w x\ntable b a x w v u")
        self.assertEqual((schema.columns("a"), schema.columns("b")), (["u", "v", "w", "x"], ["x", "w", "v", "u"]))

    def test_five_columns(self):
        self.check(TooMany(1), "root a u v w x y")
        self.check(TooMany(1), "root a t u v w x y z")
        self.check(TooMany(2), "root a x\ntable b a u v w x y")

    def test_a_wrong_name_comes_before_the_limits(self):
        self.check(DuplicateName(1, "u"), "root a u v w x u")
        self.check(DuplicateName(7, "x"), f"{self.SIX}\nroot g x x")
        self.check(DuplicateName(7, "f"), f"{self.SIX}\nroot f x")
        self.check(UnknownName(7, "h"), f"{self.SIX}\ntable g h x")
        self.check(DuplicateName(5, "x"), f"{self.FOUR}\ntable e d x x")
        self.check(DuplicateName(5, "d"), f"{self.FOUR}\ntable d d x")
        self.check(BadLine(1), "root a u v w x Y")
        self.check(BadLine(7), f"{self.SIX}\nroot g")


if __name__ == "__main__":
    unittest.main()
