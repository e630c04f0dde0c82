"""Points 2, 24 and 56: the errors of calls and questions, in their order."""

import itertools
import unittest

from ownersagree.bases import Base
from ownersagree.errors import BadValue, NoRow, OtherSchema, Refused, UnknownName, WrongCount
from ownersagree.handlers import Handler
from ownersagree.questions import Question
from ownersagree.schemas import Schema
from ownersagree.systems import System
from tests.helpers import TEAMS, AgreeTestCase, state_of, teams

NO_VALUES = ["", "A", "a b", "a_b", "'a'", "abcdefghij01234567890", "a\n", "\u00e9", "\u0663", None, 0, 1, True, 1.5,
             b"a", [], ["a"], ("a",), {"a": 1}, {"a"}, object()]


class Strange:
    """A value that can be neither compared nor hashed nor shown."""

    def __eq__(self, other):
        raise RuntimeError("compared")

    __hash__ = None

    def __repr__(self):
        raise RuntimeError("shown")

    def __len__(self):
        raise RuntimeError("measured")


class CallErrorCase(AgreeTestCase):
    def setUp(self):
        schema = teams()
        self.give = Handler.read(schema, "\n".join([
            "handler give", "row p in project", "value u", "row t in team", "value v", "need p.owner = me",
            "need t.owner = u", "need v = 'yes'", "new n in note with me", "set p.owner = u", "take t"]))
        self.base = Base(System.of(schema, self.give, Handler.read(schema, "handler note\nnew n in note with me")))
        self.base.put("team", None, ["ann", "ann"])
        self.base.put("team", None, ["bob", "bob"])
        self.base.put("project", 1, ["ann"])
        self.question = Question.read(schema, "\n".join([
            "question q", "row p in project", "value u", "row t in team", "value v", "find n in team"]))

    def check_call(self, error, name, me, rows, values):
        """Checks the error of each way to make a call, and that nothing changes."""
        before = state_of(self.base)
        self.check_error(error, self.base.run, (name, me, rows, values))
        self.check_error(error, self.base.touched, (name, me, rows, values))
        if name == "give":
            self.check_error(error, self.give, self.base, me, rows, values)
            if len(values) == 2:
                self.check_error(error, self.base.call, name, me, *rows, u=values[0], v=values[1])
                self.check_error(error, self.base.call, name, me, *rows, v=values[1], u=values[0])
        self.check_error(error, self.base.run_all, [(name, me, rows, values)])
        self.assertEqual(state_of(self.base), before)
        with self.base.trial() as trial:
            trial.keep = False
            self.assertEqual(self.base.run(("note", "me", (), ())), [("note", 1)])

    def check_ask(self, error, me, rows, values):
        before = state_of(self.base)
        self.check_error(error, self.base.ask, self.question, me, rows, values)
        self.assertEqual(state_of(self.base), before)


class OrderTest(CallErrorCase):
    def test_an_allowed_call(self):
        self.assertEqual(self.base.touched(("give", "ann", (1, 2), ("bob", "yes"))),
                         [(0, "new", ("note", 1)), (1, "set", ("project", 1)), (2, "taken", ("team", 2))])
        self.assertEqual(self.base.run(("give", "ann", (1, 2), ("bob", "yes"))), [("note", 1)])

    def test_unknown_handlers(self):
        for name in ("nope", "", "Give", "me", "project"):
            self.check_call(UnknownName(0, name), name, "ann", (1, 2), ("bob", "yes"))
            self.check_call(UnknownName(0, name), name, None, (9,), ("",))

    def test_unknown_handlers_of_call(self):
        self.check_error(UnknownName(0, "nope"), self.base.call, "nope", "ann")
        self.check_error(UnknownName(0, "nope"), self.base.call, "nope", None, 9, 9, 9, x=1)

    def test_a_handler_that_the_system_of_the_base_does_not_have(self):
        other = Handler.read(teams(), "handler other")
        self.check_error(UnknownName(0, "other"), other, self.base, "ann", (), ())
        self.check_error(UnknownName(0, "other"), other, self.base, None, (1,), ())

    def test_wrong_counts(self):
        for rows in ((), (1,), (1, 2, 2)):
            self.check_call(WrongCount(0), "give", "ann", rows, ("bob", "yes"))
        for values in ((), ("bob",), ("bob", "yes", "yes")):
            self.check_call(WrongCount(0), "give", "ann", (1, 2), values)
        self.check_call(WrongCount(0), "give", "ann", [2, 1, 2], ["bob"])
        self.check_call(WrongCount(0), "note", "ann", (1,), ())
        self.check_call(WrongCount(0), "note", "ann", (), ("a",))

    def test_values_that_are_none(self):
        for value in NO_VALUES + [Strange()]:
            self.check_call(BadValue(value), "give", value, (1, 2), ("bob", "yes"))
            self.check_call(BadValue(value), "give", "ann", (1, 2), (value, "yes"))
            self.check_call(BadValue(value), "give", "ann", (1, 2), ("bob", value))
            self.check_call(BadValue(value), "note", value, (), ())

    def test_the_first_value_that_is_none_is_told(self):
        self.check_call(BadValue(None), "give", None, (1, 2), ("", "A"))
        self.check_call(BadValue(""), "give", "ann", (1, 2), ("", "A"))
        self.check_call(BadValue("A"), "give", "ann", (1, 2), ("bob", "A"))

    def test_values_of_all_forms(self):
        for value in ("0", "9a", "me", "abcdefghij0123456789", "owner"):
            self.check_call(Refused("give", 0), "give", value, (1, 2), (value, value))

    def test_rows_that_are_not_in_the_base(self):
        for number in (0, -1, 3, 10 ** 30, -10 ** 30):
            self.check_call(NoRow("project", number), "give", "ann", (number, 2), ("bob", "yes"))
            self.check_call(NoRow("team", number), "give", "ann", (1, number), ("bob", "yes"))
        self.check_call(NoRow("project", 2), "give", "ann", (2, 2), ("bob", "yes"))
        self.check_call(NoRow("project", 2), "give", "ann", (2, 3), ("bob", "yes"))

    def test_rows_that_have_left_the_base(self):
        self.base.run(("give", "ann", (1, 2), ("bob", "yes")))
        self.check_error(NoRow("team", 2), self.base.run, ("give", "bob", (1, 2), ("bob", "yes")))
        self.base.run(("give", "bob", (1, 1), ("ann", "yes")))
        self.check_error(NoRow("project", 1), self.base.run, ("give", "bob", (1, 2), ("bob", "yes")))

    def test_guards_from_the_first_to_the_last(self):
        cases = {("bob", "ann", "no"): 0, ("bob", "bob", "yes"): 0, ("ann", "ann", "no"): 1, ("ann", "cid", "yes"): 1,
                 ("ann", "bob", "no"): 2}
        for (me, first, second), guard in cases.items():
            self.check_call(Refused("give", guard), "give", me, (1, 2), (first, second))
        error = self.check_error(Refused("give", 2), self.base.run, ("give", "ann", (1, 2), ("bob", "no")))
        self.assertEqual((error.agreement, error.number), (None, None))
        self.assertIsNone(error.__cause__)

    def test_several_errors_at_once(self):
        parts = {
            "name": ("give", "nope", lambda: UnknownName(0, "nope")),
            "count": ((1, 2), (1, 2, 3), lambda: WrongCount(0)),
            "value": (("bob", "yes"), ("", "yes"), lambda: BadValue("")),
            "row": (1, 7, lambda: NoRow("project", 7)),
            "guard": ("ann", "cid", lambda: Refused("give", 0)),
        }
        for wrong in itertools.product([0, 1], repeat=5):
            name, rows, values, row, me = (part[at] for part, at in zip(parts.values(), wrong))
            due = [error() for (_, _, error), at in zip(parts.values(), wrong) if at]
            if due:
                self.check_call(due[0], name, me, (row,) + rows[1:], values)


class CallTest(CallErrorCase):
    def test_keywords_in_any_order(self):
        self.check_error(Refused("give", 1), self.base.call, "give", "ann", 1, 2, v="yes", u="cid")
        self.assertEqual(self.base.call("give", "ann", 1, 2, v="yes", u="bob"), [("note", 1)])
        self.assertEqual(self.base["project", 1]["owner"], "bob")

    def test_keywords_that_are_missing_and_ones_too_many(self):
        for named in ({}, {"u": "bob"}, {"v": "yes"}, {"u": "bob", "v": "yes", "w": "a"}, {"u": "bob", "w": "yes"},
                      {"p": "bob", "t": "yes"}, {"u": "bob", "V": "yes"}, {"u": None}):
            self.check_error(WrongCount(0), self.base.call, "give", "ann", 1, 2, **named)
            self.check_error(WrongCount(0), self.base.call, "give", None, 7, 7, **named)
        self.check_error(WrongCount(0), self.base.call, "note", "ann", u="a")

    def test_a_wrong_number_of_rows(self):
        for rows in ((), (1,), (1, 2, 3)):
            self.check_error(WrongCount(0), self.base.call, "give", None, *rows, u="", v="")

    def test_parameters_with_the_names_of_arguments(self):
        schema = teams()
        handler = Handler.read(schema, "handler h\nvalue rows\nvalue values\nvalue call\nvalue base\n"
                                       "new n in team with rows values\nnew m in team with call base")
        base = Base(System.of(schema, handler))
        base.call("h", "me", base="d", call="c", values="b", rows="a")
        self.assertEqual([base["team", number][column] for number in (1, 2) for column in ("owner", "lead")],
                         ["a", "b", "c", "d"])

    def test_parameters_called_name_and_self_by_run(self):
        schema = teams()
        handler = Handler.read(schema, "handler h\nvalue name\nvalue self\nnew n in team with self name")
        base = Base(System.of(schema, handler))
        self.assertEqual(base.run(("h", "me", (), ("a", "b"))), [("team", 1)])
        self.assertEqual(handler(base, "me", (), ("c", "d")), [("team", 2)])
        self.assertEqual([base["team", number]["owner"] for number in (1, 2)], ["b", "d"])


class AskTest(CallErrorCase):
    def test_an_allowed_question(self):
        self.assertEqual(self.base.ask(self.question, "ann", (1, 2), ("a", "b")), [1, 2])
        self.assertEqual(self.base.ask(self.question, "ann", [1, 2], ["a", "b"]), [1, 2])

    def test_other_schemas_come_first(self):
        for text in ("root team owner", TEAMS.replace("lead", "led"), f"{TEAMS}\nowner team owner"):
            question = Question.read(Schema.read(text), "question q\nrow t in team\nfind n in team")
            for me, rows in (("ann", (1,)), (None, (1,)), ("ann", ()), ("ann", (9,))):
                self.check_error(OtherSchema(), self.base.ask, question, me, rows, ())

    def test_a_schema_that_was_read_anew(self):
        question = Question.read(Schema.read(TEAMS), "question q\nfind n in project")
        self.assertEqual(self.base.ask(question, "ann", (), ()), [1])

    def test_wrong_counts(self):
        for rows, values in (((), ("a", "b")), ((1,), ("a", "b")), ((1, 2, 2), ("a", "b")), ((1, 2), ()),
                             ((1, 2), ("a",)), ((1, 2), ("a", "b", "c"))):
            self.check_ask(WrongCount(0), "ann", rows, values)
            self.check_ask(WrongCount(0), None, rows, values)

    def test_values_that_are_none(self):
        for value in NO_VALUES + [Strange()]:
            self.check_ask(BadValue(value), value, (1, 2), ("a", "b"))
            self.check_ask(BadValue(value), "ann", (1, 2), (value, "b"))
            self.check_ask(BadValue(value), "ann", (9, 9), ("a", value))
        self.check_ask(BadValue(""), "", (9, 9), (None, None))

    def test_rows_that_are_not_in_the_base(self):
        for number in (0, -1, 3, 10 ** 30):
            self.check_ask(NoRow("project", number), "ann", (number, 9), ("a", "b"))
            self.check_ask(NoRow("team", number), "ann", (1, number), ("a", "b"))


class ReadErrorTest(CallErrorCase):
    def test_of_what_is_read_by_table_and_number(self):
        reads = [lambda *at: self.base[at], self.base.pattern_of, self.base.depth_of]
        for read in reads:
            self.check_error(UnknownName(0, "nope"), read, "nope", 1)
            self.check_error(UnknownName(0, "nope"), read, "nope", 99)
            self.check_error(UnknownName(0, "owner"), read, "owner", 1)
            for number in (0, -1, 2, 10 ** 30):
                self.check_error(NoRow("project", number), read, "project", number)
            self.check_error(NoRow("note", 1), read, "note", 1)

    def test_numbers(self):
        for table in ("nope", "owner", "", "give"):
            self.check_error(UnknownName(0, table), self.base.numbers, table)


if __name__ == "__main__":
    unittest.main()
