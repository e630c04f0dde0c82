"""Points 58 to 60: the verdict on a handler."""

import collections
import unittest

from ownersagree.agreements import held
from ownersagree.bases import Base
from ownersagree.errors import UnknownName
from ownersagree.judging import judge_handler
from ownersagree.surveys import survey
from ownersagree.verdicts import Touched, Within
from tests.examples import BAD_GIVE, BOXES, COPY, LEFT, PLAN, PROJECTS, RIGHT, START, projects, system_of
from tests.helpers import AgreeTestCase
from tests.plain_verdicts import PlainHandler
from tests.random_derivations import play_randomly, random_call
from tests.random_systems import random_owned_system


def touched_of_others(base, call):
    """Plays a call; returns a way, a depth and an address for each row of another owner that it touches."""
    schema = base.system.schema
    name, me, rows, _ = call
    arguments = [base.depth_of(table, number) for (_, table), number in
                 zip(base.system[name].row_parameters(), rows)]
    found = []
    touched = base.touched(call)
    before = [(way, base[way[2]][schema.owner_of(way[2][0])], base.depth_of(*way[2])) for way in touched
              if way[1] != "new" and schema.owner_of(way[2][0]) is not None]
    base.run(call)
    after = [(way, base[way[2]][schema.owner_of(way[2][0])], 0) for way in touched
             if way[1] == "new" and schema.owner_of(way[2][0]) is not None]
    for (index, kind, address), owner, depth in before + after:
        if owner != me:
            found.append(((index, kind, address[0]), max([depth] + arguments), address))
    return found


class HandlerCase(AgreeTestCase):
    def check_touched(self, found, name, way, depth):
        verdict = judge_handler(found, name)
        self.assertIs(type(verdict), Touched)
        self.assertEqual((verdict.way, verdict.depth), (way, depth))
        self.assertEqual(verdict.summary(), f"fails at depth {depth} after {verdict.size} calls: {way[1]} {way[2]}")
        calls, address = verdict.history()
        self.assertEqual(len(calls), verdict.size)
        self.assertEqual(calls[-1][0], name)
        base = Base(found.system)
        base.run_all(calls[:-1])
        self.assertIn((way, depth, address), touched_of_others(base, calls[-1]))
        return verdict

    def check_within(self, found, name, rests):
        verdict = judge_handler(found, name)
        self.assertIs(type(verdict), Within)
        self.assertEqual((verdict.rests, verdict.summary()), (rests, f"holds: rests on {rests}"))


class ExampleTest(HandlerCase):
    def test_the_example(self):
        found = survey(projects())
        self.check_within(found, "start", "nothing")
        self.check_within(found, "plan", "agreements")
        self.check_within(found, "give", "agreements")

    def test_the_bad_example(self):
        found = survey(projects(BAD_GIVE))
        self.check_within(found, "give", "nothing")
        schema = f"{PROJECTS}\nowner project owner"
        found = survey(system_of(schema, START, PLAN, BAD_GIVE, "handler sweep\nrow p in project\nneed p.owner = me\n"
                                 "each task below p sets owner = me"))
        self.check_within(found, "give", "agreements")
        self.check_touched(found, "sweep", (0, "each", "task"), 3)

    def test_unknown_names(self):
        found = survey(projects())
        for name in ("nope", "", "task", "Start"):
            self.check_error(UnknownName(0, name), judge_handler, found, name)


class WayTest(HandlerCase):
    """Each way, by handlers over groups, rows and items, all of which belong to their column who."""

    SCHEMA = ("root g who\ntable r g who\ntable i r who\nroot free x\ntable low free x\nowner g who\nowner r who\n"
              "owner i who\nowner low x")
    MAKERS = ["handler mg\nvalue u\nnew n in g with me",
              "handler mr\nrow p in g\nneed p.who = me\nnew n in r under p with me",
              "handler mi\nrow p in r\nneed p.who = me\nnew n in i under p with me",
              "handler mf\nnew n in free with me",
              "handler ml\nrow p in free\nnew n in low under p with me"]

    def found(self, *texts):
        return survey(system_of(self.SCHEMA, *self.MAKERS, *texts))

    def test_the_makers(self):
        found = self.found()
        self.check_within(found, "mg", "agreements")
        self.check_within(found, "mr", "agreements")
        self.check_within(found, "mi", "agreements")
        self.check_within(found, "mf", "nothing")
        self.check_within(found, "ml", "agreements")

    def test_set(self):
        found = self.found("handler h\nrow p in g\nset p.who = me",
                           "handler k\nrow p in g\nneed p.who = me\nset p.who = 'a'",
                           "handler l\nrow p in g\nrow q in g\nneed p.who = me\nset p.who = me\nset q.who = me",
                           "handler free\nrow f in free\nset f.x = me")
        self.check_touched(found, "h", (0, "set", "g"), 1)
        self.check_within(found, "k", "agreements")
        self.check_touched(found, "l", (1, "set", "g"), 1)
        self.check_within(found, "free", "nothing")

    def test_moved_and_under(self):
        found = self.found("handler h\nrow p in r\nrow q in g\nmove p under q",
                           "handler k\nrow p in r\nrow q in g\nneed p.who = me\nmove p under q",
                           "handler l\nrow p in r\nrow q in g\nneed p.who = me\nneed q.who = me\nmove p under q",
                           "handler n\nrow p in r\nneed p.who = me\nnew q in g with 'a'\nmove p under q",
                           "handler f\nrow p in low\nrow q in free\nmove p under q")
        self.check_touched(found, "h", (0, "moved", "r"), 2)
        self.check_touched(found, "k", (0, "under", "g"), 2)
        self.check_within(found, "l", "agreements")
        self.check_touched(found, "n", (0, "new", "g"), 2)
        self.check_touched(found, "f", (0, "moved", "low"), 2)

    def test_under_and_new(self):
        found = self.found("handler h\nrow p in g\nvalue u\nnew n in r under p with u",
                           "handler k\nrow p in g\nvalue u\nneed p.who = me\nnew n in r under p with u",
                           "handler l\nvalue u\nnew n in g with me\nnew m in r under n with u",
                           "handler o\nvalue u\nneed u = 'a'\nneed me = u\nnew n in g with u\n"
                           "new m in r under n with u",
                           "handler f\nrow p in free\nvalue u\nnew m in low under p with u")
        self.check_touched(found, "h", (0, "under", "g"), 1)
        self.check_touched(found, "k", (0, "new", "r"), 1)
        self.check_touched(found, "l", (1, "new", "r"), 0)
        self.check_within(found, "o", "agreements")
        self.check_touched(found, "f", (0, "new", "low"), 1)

    def test_a_new_row_belongs_to_its_value_after_the_call(self):
        found = self.found("handler h\nvalue u\nnew n in g with me\nnew m in r under n with u\n"
                           "each r below n sets who = me",
                           "handler l\nrow p in g\nrow q in r\nneed p.who = me\nneed q.who = me\n"
                           "new m in r under p with 'a'\neach r below p sets who = me")
        self.check_within(found, "h", "agreements")
        self.check_within(found, "l", "agreements")
        found = self.found("handler k\nnew n in g with me\nnew m in r under n with me\neach r below n sets who = 'a'")
        self.check_touched(found, "k", (1, "new", "r"), 0)

    def test_a_new_row_with_an_owner_above_it(self):
        schema = "root a x\ntable b a x\nowner b a.x\nfollow b x x"
        found = survey(system_of(schema, "handler ma\nvalue u\nnew n in a with u",
                                 "handler mb\nrow p in a\nrow q in a\nneed p.x = me\nnew n in b under p with p.x\n"
                                 "set q.x = 'b'", "handler mc\nnew p in a with me\nnew q in b under p with 'a'"))
        # q may be the same row as p.
        self.check_touched(found, "mb", (0, "new", "b"), 1)
        self.check_within(found, "mc", "agreements")

    def test_new_rows_that_are_taken(self):
        found = self.found("handler h\nrow p in g\nneed p.who = me\nnew n in r under p with 'a'\ntake p")
        self.check_within(found, "h", "agreements")
        found = self.found("handler k\nrow p in g\nrow q in g\nneed p.who = me\nneed q.who = me\n"
                           "new n in r under p with 'a'\ntake q")
        self.check_touched(found, "k", (0, "new", "r"), 1)

    def test_each(self):
        found = self.found("handler h\nrow p in g\neach r below p sets who = me",
                           "handler o\nrow p in r\nset p.who = 'x'",
                           "handler k\nrow p in g\nneed p.who = me\neach i below p sets who = me",
                           "handler l\nrow p in r\nrow q in g\nneed q.who = me\nmove p under q\n"
                           "each r below q sets who = me",
                           "handler f\nrow p in free\neach low below p sets x = me")
        self.check_touched(found, "h", (0, "each", "r"), 2)
        self.check_touched(found, "k", (0, "each", "i"), 4)
        self.check_touched(found, "l", (0, "moved", "r"), 2)
        self.check_touched(found, "f", (0, "each", "low"), 2)

    def test_each_of_rows_that_were_moved_below_by_the_call(self):
        schema = "root a x\ntable b a x\nowner b x"
        texts = ["handler ma\nnew n in a with me",
                 "handler mb\nrow p in a\nvalue u\nneed p.x = me\nnew n in b under p with u"]
        found = survey(system_of(schema, *texts, "handler h\nrow q in b\nneed q.x = me\nnew n in a with me\n"
                                 "move q under n\neach b below n sets x = 'k'",
                                 "handler k\nrow q in b\nrow s in b\nneed q.x = me\nnew n in a with me\n"
                                 "move s under n\n"
                                 "each b below n sets x = 'k'"))
        self.check_within(found, "h", "agreements")
        self.check_touched(found, "k", (1, "moved", "b"), 2)

    def test_each_of_a_new_row_touches_old_rows_alone(self):
        found = self.found("handler h\nnew n in g with me\nnew m in r under n with me\neach r below n sets who = me\n"
                           "each i below n sets who = 'a'")
        self.check_within(found, "h", "agreements")

    def test_each_of_rows_that_are_taken_afterwards(self):
        found = self.found("handler h\nrow p in g\nneed p.who = me\nneed me = 'a'\n"
                           "each r below p sets who = me\ntake p",
                           "handler o\nrow p in r\nset p.who = 'b'")
        self.check_touched(found, "h", (0, "each", "r"), 3)

    def test_taken(self):
        found = self.found("handler h\nrow p in g\ntake p", "handler k\nrow p in g\nneed p.who = me\ntake p",
                           "handler o\nrow p in r\nset p.who = 'x'", "handler f\nrow p in free\ntake p")
        self.check_touched(found, "h", (0, "taken", "g"), 1)
        self.check_touched(found, "k", (0, "taken", "r"), 3)
        self.check_touched(found, "f", (0, "taken", "low"), 2)
        found = self.found("handler k\nrow p in g\nneed p.who = me\ntake p", "handler o\nrow p in i\nset p.who = 'x'")
        self.check_touched(found, "k", (0, "taken", "i"), 4)
        self.check_touched(found, "o", (0, "set", "i"), 3)

    def test_the_order_of_the_schema_below_a_row_that_is_taken(self):
        schema = "root a x\ntable b a x\ntable c a x\nowner b x\nowner c x"
        texts = ["handler ma\nnew n in a with me", "handler mc\nrow p in a\nnew n in c under p with me",
                 "handler mb\nrow p in a\nnew n in b under p with me", "handler h\nrow p in a\ntake p"]
        found = survey(system_of(schema, *texts))
        self.check_touched(found, "h", (0, "taken", "b"), 2)
        found = survey(system_of(schema, texts[0], texts[1], texts[3]))
        self.check_touched(found, "h", (0, "taken", "c"), 2)

    def test_rows_that_are_moved_below_a_row_that_is_taken(self):
        found = self.found("handler h\nrow p in g\nrow q in r\nneed p.who = me\nneed q.who = me\n"
                           "move q under p\ntake p",
                           "handler o\nrow p in i\nset p.who = 'x'")
        self.check_touched(found, "h", (1, "taken", "i"), 4)

    def test_the_first_way(self):
        found = self.found("handler h\nrow p in g\nrow q in r\nvalue u\nneed q.g.who = me\nneed q.who = me\n"
                           "set q.who = u\n"
                           "move q under p\nset p.who = u\ntake p")
        self.check_touched(found, "h", (1, "under", "g"), 2)
        found = self.found("handler h\nrow p in g\nvalue u\nneed p.who = me\nset p.who = u\nset p.who = u\n"
                           "new n in g with u\n"
                           "new k in g with 'b'")
        self.check_touched(found, "h", (2, "new", "g"), 1)

    def test_handlers_that_can_never_be_called(self):
        found = self.found("handler h\nrow p in g\nneed 'a' = 'b'\nset p.who = me",
                           "handler k\nneed 'a' = 'b'\nnew n in g with 'c'")
        self.check_within(found, "h", "nothing")
        self.check_within(found, "k", "nothing")
        found = survey(system_of(self.SCHEMA, "handler h\nrow p in g\ntake p"))
        self.check_within(found, "h", "nothing")

    def test_handlers_that_touch_nothing(self):
        found = self.found("handler h", "handler k\nrow p in g\nvalue u\nneed p.who = u")
        self.check_within(found, "h", "nothing")
        self.check_within(found, "k", "nothing")

    def test_an_argument_that_the_way_does_not_touch_counts_for_the_depth(self):
        found = self.found("handler h\nrow p in g\nrow q in i\nset p.who = me")
        self.check_touched(found, "h", (0, "set", "g"), 3)

    def test_rests_on_patterns(self):
        copy = COPY.replace("need p.a = p.c\n", "")
        found = survey(system_of(BOXES + "\nowner link x", LEFT, RIGHT, copy,
                                 "handler h\nrow n in link\nneed n.box.a = n.box.c\nneed n.y = me\nset n.y = 'k'",
                                 "handler k\nrow n in link\nneed n.x = me\nset n.x = 'k'"))
        self.check_touched(found, "copy", (0, "new", "link"), 1)
        # Once y is changed, nothing tells x any more.
        self.check_touched(found, "h", (0, "set", "link"), 3)
        found = survey(system_of(BOXES + "\nowner link x", LEFT, RIGHT, copy,
                                 "handler h\nrow n in link\nneed n.box.a = n.box.c\nneed n.y = me\nset n.y = me",
                                 "handler k\nrow n in link\nneed n.box.a = n.box.c\nneed n.y = me\ntake n"))
        self.check_within(found, "h", "patterns")
        self.check_within(found, "k", "patterns")

    def test_rests_on_agreements_where_a_table_can_have_no_rows(self):
        found = survey(system_of(self.SCHEMA, self.MAKERS[0], "handler h\nrow p in g\nneed p.who = me\ntake p"))
        self.check_within(found, "h", "agreements")
        found = survey(system_of(self.SCHEMA, self.MAKERS[0], "handler h\nrow p in g\nneed p.who = me\nset p.who = me\n"
                                 "each i below p sets who = me"))
        self.check_within(found, "h", "agreements")

    def test_rests_on_agreements_where_two_arguments_can_not_be_one_row(self):
        guards = "row p in g\nrow q in g\nneed p.who = me\nneed me = 'a'\nneed q.who = 'b'"
        found = self.found(f"handler h\n{guards}\ntake p",
                           f"handler k\n{guards}\nnew n in r under p with me\neach r below q sets who = 'b'")
        self.check_within(found, "h", "agreements")
        self.check_touched(found, "k", (1, "each", "r"), 2)

    def test_free_values_are_no_constants(self):
        for number in range(6):
            found = self.found(f"handler h\nrow p in g\nset p.who = 'u{number}'",
                               "handler k\nrow p in g\nset p.who = me")
            self.check_touched(found, "h", (0, "set", "g"), 1)
            self.check_touched(found, "k", (0, "set", "g"), 1)


class RandomTest(HandlerCase):
    def test_against_the_model(self):
        counts = collections.Counter()
        for seed in range(110):
            _, system = random_owned_system(seed)
            found = survey(system)
            schema, agreements = system.schema, held(found)
            owners = {table: schema.owner_of(table) for table in schema.tables()}
            for name in system.names():
                wanted = PlainHandler(schema.text, system[name].text).judge(found, agreements, owners)
                with self.subTest(seed=seed, name=name):
                    if isinstance(wanted, str):
                        self.check_within(found, name, wanted)
                        counts[wanted] += 1
                    else:
                        self.check_touched(found, name, *wanted)
                        counts[wanted[0][1]] += 1
        for name in ("nothing", "agreements", "set", "moved", "under", "new", "each", "taken"):
            self.assertGreater(counts[name], 8, counts)

    def test_random_histories_touch_no_such_row_before(self):
        counts = collections.Counter()
        for seed in range(60):
            chance, system = random_owned_system(seed)
            found = survey(system)
            verdicts = {name: judge_handler(found, name) for name in system.names()}
            order = {name: [way for way, _ in PlainHandler(system.schema.text, system[name].text).ways()]
                     for name in system.names()}
            base = Base(system)
            play_randomly(chance, base, ["a", "b", "c"], 40)
            for _ in range(80):
                call = random_call(chance, base, ["a", "b", "c"])
                if call is None:
                    continue
                try:
                    violations = touched_of_others(base, call)
                except ValueError:
                    continue
                self.check_violations(verdicts[call[0]], order[call[0]], violations, counts)
        self.assertGreater(counts["others"], 1000, counts)
        self.assertGreater(counts["within"], 100, counts)

    def check_violations(self, verdict, order, violations, counts):
        counts["within"] += bool(verdict)
        for way, depth, _ in violations:
            counts["others"] += 1
            self.assertFalse(verdict)
            self.assertGreaterEqual(order.index(way), order.index(verdict.way))
            if way == verdict.way:
                self.assertGreaterEqual(depth, verdict.depth)


if __name__ == "__main__":
    unittest.main()
