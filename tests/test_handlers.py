"""Points 2, 5 and 16 to 20: handlers that can be read."""

import unittest

from ownersagree.bases import Base
from ownersagree.handlers import Handler
from ownersagree.schemas import Schema
from ownersagree.systems import System
from tests.helpers import AgreeTestCase, handler, teams

ALL_FORMS = [
    "handler everything",
    "row t in team",
    "value u",
    "row p in project",
    "value v",
    "row k in task",
    "need t.owner = me",
    "need 'open' = k.state",
    "need k.project.team.lead = p.team.owner",
    "need u = v",
    "new n in team with me 'open'",
    "new m in project under n with u",
    "new s in task under p with k.project.owner v",
    "move k under m",
    "set t.lead = k.owner",
    "each step below m sets owner = 'open'",
    "each step below t sets owner = v",
    "take k",
]


class ReadTest(AgreeTestCase):
    def test_all_ten_forms(self):
        schema = teams()
        text = "\n".join(ALL_FORMS)
        found = Handler.read(schema, text)
        self.assertIsInstance(found, Handler)
        self.assertEqual(found.name, "everything")
        self.assertEqual(found.text, text)
        self.assertIs(found.schema, schema)
        self.assertEqual(found.row_parameters(), [("t", "team"), ("p", "project"), ("k", "task")])
        self.assertEqual(found.value_parameters(), ["u", "v"])
        self.assertEqual(found.needs(), [
            ("t.owner", "me"), ("'open'", "k.state"), ("k.project.team.lead", "p.team.owner"), ("u", "v"),
        ])
        self.assertEqual(found.deeds(), ALL_FORMS[10:])

    def test_kinds_of_what_is_returned(self):
        found = handler(*ALL_FORMS)
        for pair in found.row_parameters() + found.needs():
            self.assertIs(type(pair), tuple)
            self.assertEqual([type(part) for part in pair], [str, str])
        for word in found.value_parameters() + found.deeds():
            self.assertIs(type(word), str)
        for listed in (found.row_parameters(), found.value_parameters(), found.needs(), found.deeds()):
            self.assertIs(type(listed), list)

    def test_a_handler_of_nothing_but_its_first_line(self):
        found = handler("handler idle")
        self.assertEqual((found.name, found.text), ("idle", "handler idle"))
        self.assertEqual((found.row_parameters(), found.value_parameters()), ([], []))
        self.assertEqual((found.needs(), found.deeds()), ([], []))

    def test_a_handler_of_parameters_alone_of_guards_alone_and_of_one_change(self):
        self.assertEqual(handler("handler h", "row t in team", "value u").needs(), [])
        self.assertEqual(handler("handler h", "need me = 'a'").needs(), [("me", "'a'")])
        self.assertEqual(handler("handler h", "new n in note with me").deeds(), ["new n in note with me"])

    def test_row_and_value_lines_may_be_mixed(self):
        found = handler("handler h", "value v", "row t in team", "value u", "row p in project")
        self.assertEqual(found.row_parameters(), [("t", "team"), ("p", "project")])
        self.assertEqual(found.value_parameters(), ["v", "u"])

    def test_lines_that_change_the_base_may_be_mixed(self):
        lines = ["take t", "set t.owner = me", "new n in note with me", "each task below t sets state = 'a'",
                 "move p under t", "new m in note with me", "set t.owner = me"]
        self.assertEqual(handler("handler h", "row t in team", "row p in project", *lines).deeds(), lines)

    def test_each_kind_of_term_at_each_place(self):
        terms = ["me", "u", "'open'", "'0'", "'abcdefghij0123456789'", "k.owner", "k.state", "k.project.owner",
                 "k.project.team.lead", "t.lead"]
        for term in terms:
            with self.subTest(term=term):
                parameters = ["handler h", "row t in team", "row k in task", "value u"]
                found = handler(*parameters, f"need {term} = {term}", f"new n in note with {term}",
                                f"set t.owner = {term}", f"each step below k sets owner = {term}")
                self.assertEqual(found.needs(), [(term, term)])
                self.assertEqual(len(found.deeds()), 3)

    def test_terms_of_a_new_row_stand_for_the_columns_in_order(self):
        found = handler("handler h", "value u", "new n in team with u me")
        base = Base(System.of(found.schema, found))
        base.run(("h", "ann", (), ("bob",)))
        self.assertEqual((base["team", 1]["owner"], base["team", 1]["lead"]), ("bob", "ann"))

    def test_names_of_one_and_of_twelve_characters(self):
        found = handler("handler abcdefghijkl", "row a in team", "row m23456789012 in team", "value z",
                        "value z23456789012")
        self.assertEqual(found.name, "abcdefghijkl")
        self.assertEqual(found.row_parameters(), [("a", "team"), ("m23456789012", "team")])
        self.assertEqual(found.value_parameters(), ["z", "z23456789012"])


class NamesTest(AgreeTestCase):
    def test_names_that_are_words_of_the_forms(self):
        found = handler(
            "handler handler", "row in in project", "row under in team", "row row in task", "value with",
            "value value", "need with = value", "need in.owner = under.owner",
            "new new in task under in with with value", "new below in project under under with with",
            "move in under under", "set row.state = with", "each step below below sets owner = with",
            "each step below under sets owner = value", "take in", "take under")
        self.assertEqual(found.row_parameters(), [("in", "project"), ("under", "team"), ("row", "task")])
        self.assertEqual(found.value_parameters(), ["with", "value"])
        self.assertEqual(len(found.deeds()), 8)

    def test_more_words_of_the_forms(self):
        found = handler(
            "handler need", "row sets in team", "row below in task", "row take in project", "value need",
            "value move", "need need = move", "new with in project under sets with need",
            "new each in task under with with take.owner need",
            "set sets.owner = need", "each task below sets sets state = sets.lead",
            "each step below below sets owner = move", "move below under take", "take take", "take below")
        self.assertEqual(found.name, "need")
        self.assertEqual(found.needs(), [("need", "move")])
        self.assertEqual(len(found.deeds()), 8)

    def test_a_row_called_with_behind_under(self):
        found = handler("handler h", "row with in team", "value under", "new n in project under with with under")
        base = Base(System.of(found.schema, found))
        team = base.put("team", None, ["a", "b"])
        base.run(("h", "me", (team,), ("c",)))
        self.assertEqual((base["project", 1].parent, base["project", 1]["owner"]), (team, "c"))

    def test_the_names_of_the_handler_of_a_table_and_of_a_column(self):
        found = handler("handler task", "row team in team", "row task in task", "value owner", "value state",
                        "need task.project.team.owner = owner", "new project in note with state",
                        "set task.state = task.owner", "set team.owner = owner",
                        "each project below team sets owner = owner")
        self.assertEqual(found.row_parameters(), [("team", "team"), ("task", "task")])
        self.assertEqual(found.value_parameters(), ["owner", "state"])

    def test_the_name_of_the_handler_for_a_value_and_for_a_new_row(self):
        self.assertEqual(handler("handler h", "value h").value_parameters(), ["h"])
        self.assertEqual(handler("handler h", "new h in note with me").deeds(), ["new h in note with me"])

    def test_tables_columns_and_handlers_called_me(self):
        schema = Schema.read("root me me other\ntable task me me")
        found = Handler.read(schema, "\n".join([
            "handler me", "row x in me", "row y in task", "need x.me = me", "need y.me.me = y.me",
            "new n in me with me x.me", "new m in task under n with y.me.other", "set x.me = me",
            "each task below x sets me = me"]))
        self.assertEqual(found.name, "me")
        self.assertEqual(found.row_parameters(), [("x", "me"), ("y", "task")])
        self.assertEqual(found.needs(), [("x.me", "me"), ("y.me.me", "y.me")])
        base = Base(System.of(schema, found))
        base.put("me", None, ["a", "b"])
        base.put("task", 1, ["a"])
        self.assertEqual(base.call("me", "a", 1, 1), [("me", 2), ("task", 2)])
        self.assertEqual((base["me", 2]["me"], base["me", 2]["other"]), ("a", "a"))
        self.assertEqual(base["task", 2]["me"], "b")

    def test_the_same_name_in_two_handlers(self):
        first = handler("handler h", "row x in team", "value y", "need x.owner = y")
        second = handler("handler h", "row y in task", "value x", "need y.state = x", "take y")
        self.assertEqual((first.row_parameters(), second.row_parameters()), ([("x", "team")], [("y", "task")]))
        self.assertEqual((first.value_parameters(), second.value_parameters()), (["y"], ["x"]))
        self.assertEqual((first.needs(), second.needs()), ([("x.owner", "y")], [("y.state", "x")]))
        self.assertEqual((first.deeds(), second.deeds()), ([], ["take y"]))

    def test_an_object_for_each_handler(self):
        schema = teams()
        handlers = [Handler.read(schema, f"handler h{index}\nvalue v{index}\nneed me = v{index}\n"
                                         f"new n in note with v{index}") for index in range(3)]
        for index, found in enumerate(handlers):
            self.assertEqual(found.name, f"h{index}")
            self.assertEqual(found.value_parameters(), [f"v{index}"])
            self.assertEqual(found.needs(), [("me", f"v{index}")])
            self.assertEqual(found.deeds(), [f"new n in note with v{index}"])

    def test_changing_a_returned_list_has_no_effect(self):
        found = handler(*ALL_FORMS)
        for method in (found.row_parameters, found.value_parameters, found.needs, found.deeds):
            before = list(method())
            method().clear()
            method().append("more")
            method().reverse()
            self.assertEqual(method(), before)
            self.assertIsNot(method(), method())


class LimitTest(AgreeTestCase):
    def test_class_values(self):
        self.assertEqual((Handler.MOST_ROWS, Handler.MOST_VALUES), (3, 4))
        self.assertEqual((Handler.MOST_NEEDS, Handler.MOST_DEEDS), (8, 8))

    def test_exactly_the_limit_of_all_at_once(self):
        lines = ["handler h"] + [f"row r{index} in team" for index in range(3)]
        lines += [f"value v{index}" for index in range(4)] + ["need me = me"] * 8 + ["take r0"] * 8
        found = handler(*lines)
        self.assertEqual((len(found.row_parameters()), len(found.value_parameters())), (3, 4))
        self.assertEqual((len(found.needs()), len(found.deeds())), (8, 8))


class CallTest(AgreeTestCase):
    def test_a_handler_is_called_with_a_base(self):
        schema = teams()
        found = Handler.read(schema, "handler h\nrow t in team\nvalue u\nnew n in project under t with u")
        base = Base(System.of(schema, found))
        base.put("team", None, ["a", "b"])
        self.assertEqual(found(base, "ann", (1,), ("bob",)), [("project", 1)])
        self.assertEqual(found(base, me="ann", rows=[1], values=["cid"]), [("project", 2)])
        self.assertEqual([base["project", number]["owner"] for number in (1, 2)], ["bob", "cid"])

    def test_the_base_decides_by_the_name(self):
        schema = teams()
        first = Handler.read(schema, "handler h\nnew n in note with 'first'")
        second = Handler.read(schema, "handler h\nnew n in note with 'second'")
        base = Base(System.of(schema, second))
        self.assertEqual(first(base, "ann", (), ()), [("note", 1)])
        self.assertEqual(base["note", 1]["text"], "second")


if __name__ == "__main__":
    unittest.main()
