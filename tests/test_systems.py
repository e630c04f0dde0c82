"""Points 2 and 21: systems."""

import itertools
import unittest

from ownersagree.errors import DuplicateName, OtherSchema, TooMany, UnknownName
from ownersagree.handlers import Handler
from ownersagree.schemas import Schema
from ownersagree.systems import System
from tests.helpers import TEAMS, AgreeTestCase, handler, system, teams


def many(count, schema):
    return [Handler.read(schema, f"handler h{index}") for index in range(count)]


class CreateTest(AgreeTestCase):
    def test_a_list_of_handlers(self):
        schema = teams()
        handlers = [Handler.read(schema, f"handler {name}") for name in ("zeta", "alpha", "me")]
        for system in (System(schema, handlers), System.of(schema, *handlers)):
            self.assertIsInstance(system, System)
            self.assertIs(system.schema, schema)
            self.assertEqual(system.names(), ["zeta", "alpha", "me"])
            self.assertEqual(len(system), 3)
            for one in handlers:
                self.assertIs(system[one.name], one)

    def test_no_handlers(self):
        for system in (System(teams(), []), System.of(teams())):
            self.assertEqual((system.names(), len(system), system.constants()), ([], 0, []))
            self.assertNotIn("h", system)

    def test_a_list_that_is_changed_afterwards(self):
        schema = teams()
        handlers = many(2, schema)
        system = System(schema, handlers)
        handlers.reverse()
        handlers.append(Handler.read(schema, "handler more"))
        self.assertEqual(system.names(), ["h0", "h1"])
        self.assertEqual(len(system), 2)
        self.assertNotIn("more", system)

    def test_it_does_not_change_its_arguments(self):
        schema = teams()
        handlers = many(3, schema)
        before = list(handlers)
        System(schema, handlers)
        self.assertEqual([id(one) for one in handlers], [id(one) for one in before])

    def test_a_schema_with_the_same_text(self):
        system = System(teams(), [handler("handler a"), handler("handler b")])
        self.assertEqual(system.names(), ["a", "b"])

    def test_class_value(self):
        self.assertEqual(System.MOST_HANDLERS, 16)

    def test_returned_lists_are_new(self):
        schema = teams()
        system = System.of(schema, Handler.read(schema, "handler h\nneed me = 'a'"))
        system.names().append("x")
        system.constants().clear()
        self.assertEqual((system.names(), system.constants()), (["h"], ["'a'"]))


class ErrorTest(AgreeTestCase):
    def test_sixteen_handlers_and_one_more(self):
        schema = teams()
        self.assertEqual(len(System(schema, many(16, schema))), 16)
        self.check_error(TooMany(0), System, schema, many(17, schema))
        self.check_error(TooMany(0), System.of, schema, *many(17, schema))

    def test_too_many_is_checked_first(self):
        schema = teams()
        others = many(17, Schema.read("root a b"))
        self.check_error(TooMany(0), System, schema, others)
        self.check_error(TooMany(0), System, schema, many(1, schema) * 17)

    def test_other_schemas(self):
        for text in ("root a b", TEAMS.replace("\ntable remark note text", ""), TEAMS.replace("state", "stat"),
                     f"{TEAMS}\nowner team owner", f"{TEAMS}\nfollow project owner owner"):
            other = Schema.read(text)
            self.check_error(OtherSchema(), System, teams(), many(1, other))
            self.check_error(OtherSchema(), System, other, many(1, teams()))
            self.check_error(OtherSchema(), System.of, teams(), *many(2, teams()), Handler.read(other, "handler x"))

    def test_equal_names(self):
        schema = teams()
        twice = [Handler.read(schema, "handler a"), Handler.read(schema, "handler b"),
                 Handler.read(schema, "handler b\nvalue u"), Handler.read(schema, "handler a")]
        self.check_error(DuplicateName(0, "b"), System, schema, twice)
        self.check_error(DuplicateName(0, "a"), System, schema, twice[::3])
        self.check_error(DuplicateName(0, "a"), System.of, schema, twice[0], twice[0])

    def test_the_handlers_are_checked_in_order(self):
        schema, other = teams(), Schema.read("root a b")
        here, there = Handler.read(schema, "handler h"), Handler.read(other, "handler h")
        self.check_error(DuplicateName(0, "h"), System, schema, [here, here, there])
        self.check_error(OtherSchema(), System, schema, [here, there, here])
        # Of one handler, the schema is checked before the name.
        self.check_error(OtherSchema(), System, schema, [here, there])


class HandlerOfTest(AgreeTestCase):
    def test_unknown_names(self):
        schema = teams()
        system = System.of(schema, *many(2, schema))
        for name in ("h2", "h", "", "H0", "team", "me"):
            self.check_error(UnknownName(0, name), lambda: system[name])
            self.assertNotIn(name, system)
            self.assertFalse(name in system)

    def test_known_names(self):
        schema = teams()
        system = System.of(schema, *many(2, schema))
        self.assertIs(True, "h0" in system)
        self.assertIn("h1", system)
        self.assertEqual(system["h1"].name, "h1")

    def test_a_system_is_not_iterated_over(self):
        with self.assertRaises(TypeError):
            list(System.of(teams()))


class ConstantsTest(AgreeTestCase):
    def test_of_guards_and_of_all_that_is_written(self):
        schema = teams()
        lines = ["handler h", "row t in team", "row p in project", "need 'left' = t.owner", "need me = 'right'",
                 "new n in team with 'first' 'second'", "new m in project under t with 'under'",
                 "set t.owner = 'set'", "each task below t sets state = 'each'", "move p under t", "take p"]
        system = System.of(schema, Handler.read(schema, "\n".join(lines)))
        self.assertEqual(system.constants(), [
            "'each'", "'first'", "'left'", "'right'", "'second'", "'set'", "'under'"])

    def test_ascending_and_each_once(self):
        schema = teams()
        first = Handler.read(schema, "handler a\nneed 'b' = 'ab'\nneed 'b' = '10'\nnew n in note with 'a'")
        second = Handler.read(schema, "handler b\nneed 'a' = '9'\nneed '0' = 'b'\nneed 'abc' = 'a'")
        self.assertEqual(System.of(schema, first, second).constants(),
                         ["'0'", "'10'", "'9'", "'a'", "'ab'", "'abc'", "'b'"])
        self.assertEqual(System.of(schema, second, first).constants(), System.of(schema, first, second).constants())
        self.assertEqual(System.of(schema, first).constants(), ["'10'", "'a'", "'ab'", "'b'"])

    def test_shared_by_guards_and_by_what_is_written(self):
        found = system(
            ("handler a", "row t in team", "need 'z' = t.owner", "need 'm' = 'z'", "new n in note with 'z'"),
            ("handler b", "row t in team", "need t.lead = 'c'", "new p in project under t with 'm'",
             "new q in project under t with 'm'", "set t.owner = 'c'"),
            ("handler c", "row t in team", "need me = 'q'", "each task below t sets state = 'z'",
             "each task below t sets owner = 'b'"),
            ("handler d", "row t in team", "set t.owner = 'q'", "set t.lead = 'a'", "new n in note with 'a'"))
        self.assertEqual(found.constants(), ["'a'", "'b'", "'c'", "'m'", "'q'", "'z'"])

    def test_many_are_ascending_and_told_once(self):
        # So many that they are not in order by chance alone.
        words = [f"'{letter}{number}'" for letter in "zyxwvuts" for number in (3, 20, 1)]
        parts = [words[:8], words[8:16], words[16:]]
        guards = [(f"handler g{at}", *[f"need {word} = me" for word in part]) for at, part in enumerate(parts)]
        writers = [(f"handler w{at}", *[f"new n{index} in team with {word} {word}" for index, word in enumerate(part)])
                   for at, part in enumerate(parts)]
        for handlers in (guards, writers, guards + writers, writers[::-1] + guards):
            self.assertEqual(system(*handlers).constants(), sorted(words))

    def test_handlers_in_every_order(self):
        lines = [("handler a", "need 'd' = 'b'", "new n in note with 'e'"),
                 ("handler b", "need me = 'e'", "new n in note with 'a'"),
                 ("handler c", "need 'c' = 'a'", "new n in team with 'd' 'b'"),
                 ("handler d", "new n in note with me")]
        for handlers in itertools.permutations(lines):
            found = system(*handlers)
            self.assertEqual(found.names(), [texts[0].split(" ")[1] for texts in handlers])
            self.assertEqual(found.constants(), ["'a'", "'b'", "'c'", "'d'", "'e'"])

    def test_no_constants(self):
        bare = ("handler a",)
        guard = ("handler b", "value u", "need u = me")
        writer = ("handler c", "row n in note", "value u", "need n.text = u", "new m in note with u",
                  "set n.text = me", "take n")
        for handlers in ([], [bare], [guard], [writer], [bare, guard, writer], [writer, guard, bare]):
            self.assertEqual(system(*handlers).constants(), [])

    def test_names_are_no_constants(self):
        schema = teams()
        one = Handler.read(schema, "handler a\nrow t in team\nvalue u\nneed t.owner = u\nset t.lead = me")
        self.assertEqual(System.of(schema, one).constants(), [])


if __name__ == "__main__":
    unittest.main()
