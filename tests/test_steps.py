"""Points 35 and 36: steps."""

import collections
import random
import unittest

from ownersagree.bases import Base
from ownersagree.cases import cases, pieces, step
from ownersagree.errors import AgreeError, BadCase, OtherPlaces, UnknownName, WrongCount
from ownersagree.handlers import Handler
from ownersagree.patterns import Pattern
from ownersagree.schemas import Schema
from ownersagree.systems import System
from tests.helpers import AgreeTestCase, handler, teams
from tests.plain_steps import PlainSteps, is_constant
from tests.random_patterns import finest, random_pattern
from tests.random_systems import SCHEMAS, VALUES, maker, random_handler, random_needs

OLD = ("old", ())


def old(*names):
    return ("old", names)


def new(name):
    return ("new", name)


def pattern(table, *blocks, schema=None):
    return Pattern((schema or teams()).positions(table), [block.split(" ") for block in blocks])


class StepCase(AgreeTestCase):
    def check(self, one, table, case, patterns, wanted):
        found = step(one, table, case, patterns)
        self.assertEqual(None if found is None else str(found), wanted)
        if found is not None:
            self.assertIsInstance(found, Pattern)
            self.assertEqual(list(found.places), one.schema.positions(table))


class StepTest(StepCase):
    def test_a_new_row(self):
        one = handler("handler h", "value u", "value v", "new t in team with u v")
        self.check(one, "team", (new("t"),), [], "owner; lead")
        one = handler("handler h", "value u", "need u = me", "new t in team with u me")
        self.check(one, "team", (new("t"),), [], "owner = lead")
        one = handler("handler h", "value u", "need u = 'a'", "new t in team with u 'a'")
        self.check(one, "team", (new("t"),), [], "owner = lead = 'a'")
        one = handler("handler h", "new t in team with 'a' 'b'")
        self.check(one, "team", (new("t"),), [], "owner = 'a'; lead = 'b'")

    def test_terms_are_read_before_the_call(self):
        one = handler("handler h", "row t in team", "set t.owner = t.lead", "set t.lead = t.owner")
        self.check(one, "team", (old("t"),), [pattern("team", "owner 'a'")], "owner; lead = 'a'")

    def test_guards_that_join_two_constants(self):
        for needs in (["need 'a' = 'b'"], ["need me = 'a'", "need 'b' = me"], ["need u = 'a'", "need u = 'b'"],
                      ["need u = 'a'", "need u = t.owner"], ["need t.lead = 'a'", "need t.lead = t.owner"]):
            one = handler("handler h", "row t in team", "value u", *needs)
            self.check(one, "team", (old("t"),), [pattern("team", "owner 'b'")], None)
        one = handler("handler h", "row t in team", "need 'a' = 'a'", "need t.owner = 'b'", "need t.lead = 'a'")
        self.check(one, "team", (old("t"),), [pattern("team", "owner 'b'")], "owner = 'b'; lead = 'a'")

    def test_constants_that_only_the_patterns_have(self):
        one = handler("handler h", "row t in team", "row s in team", "need t.lead = s.lead", "set t.owner = s.owner")
        self.check(one, "team", (old("t"),), [pattern("team", "lead 'x'"), pattern("team", "owner 'y'")],
                   "owner = 'y'; lead = 'x'")
        self.check(one, "team", (old("t"),), [pattern("team", "lead 'x'"), pattern("team", "lead 'y'")], None)

    def test_guards_join_across_pieces(self):
        one = handler("handler h", "row t in team", "row s in team", "need t.owner = s.owner", "need s.owner = s.lead",
                      "set t.lead = s.lead")
        self.check(one, "team", (old("t"),), [pattern("team"), pattern("team")], "owner = lead")
        self.check(one, "team", (old("t", "s"),), [pattern("team")], "owner = lead")
        self.check(one, "team", (old("s"),), [pattern("team"), pattern("team")], "owner = lead")

    def test_the_caller_and_values_join(self):
        one = handler("handler h", "row t in team", "value u", "need t.owner = me", "need t.lead = u", "need u = me")
        self.check(one, "team", (old("t"),), [pattern("team")], "owner = lead")

    def test_a_term_in_the_piece_of_its_row(self):
        one = handler("handler h", "row p in project", "need p.owner = p.team.owner", "set p.owner = 'x'")
        self.check(one, "step", (OLD, OLD, old("p"), OLD), [pattern("step", "owner task.project.team.owner")],
                   "owner = task.project.team.owner; task.owner; task.state; task.project.owner = 'x'; "
                   "task.project.team.lead")

    def test_the_old_parents_of_a_row_that_is_moved(self):
        one = handler("handler h", "row t in task", "row p in project", "need t.project.owner = me",
                      "move t under p", "set t.owner = t.project.owner", "set t.state = p.owner")
        self.check(one, "task", (old("t"), old("p"), OLD), [pattern("task"), pattern("project")],
                   "owner; state = project.owner; project.team.owner; project.team.lead")
        one = handler("handler h", "row t in task", "row p in project", "need t.project.owner = p.owner",
                      "move t under p")
        self.check(one, "task", (old("t"), old("p"), OLD),
                   [pattern("task", "owner project.owner"), pattern("project")],
                   "owner = project.owner; state; project.team.owner; project.team.lead")

    def test_set_and_each_in_their_order(self):
        for last, wanted in ((["set t.owner = 'a'", "each task below m sets owner = 'b'"], "'b'"),
                             (["each task below m sets owner = 'b'", "set t.owner = 'a'"], "'a'"),
                             (["set t.owner = 'a'", "set t.owner = 'b'"], "'b'"),
                             (["set t.owner = 'a'", "each task below p sets owner = 'c'", "set s.owner = 'd'"], "'c'")):
            one = handler("handler h", "row m in team", "row p in project", "row t in task", *[
                line.replace("set s", "set p") for line in last])
            found = step(one, "task", (old("t"), old("p"), old("m")), [finest(teams(), "task")])
            self.assertIn(("owner", wanted), found)

    def test_set_of_a_row_that_two_names_name(self):
        one = handler("handler h", "row t in team", "row s in team", "set t.owner = 'a'", "set s.owner = 'b'",
                      "set t.lead = s.lead")
        self.check(one, "team", (old("t", "s"),), [pattern("team")], "owner = 'b'; lead")
        self.check(one, "team", (old("t"),), [pattern("team"), pattern("team")], "owner = 'a'; lead")
        self.check(one, "team", (old("s"),), [pattern("team"), pattern("team")], "owner = 'b'; lead")

    def test_each_below_new_rows(self):
        one = handler("handler h", "row p in project", "new m in team with me me", "move p under m",
                      "new n in project under m with 'x'", "each project below m sets owner = me",
                      "new k in project under m with 'y'")
        for case, given in (((old("p"), new("m")), [pattern("project", "owner team.lead 'a'")]),
                            ((new("n"), new("m")), [pattern("project")]), ((new("k"), new("m")), [pattern("project")])):
            self.check(one, "project", case, given, "owner = team.owner = team.lead")
        self.check(one, "task", (OLD, old("p"), new("m")), [pattern("task", "owner state")],
                   "owner = state; project.owner = project.team.owner = project.team.lead")

    def test_each_writes_no_row_that_is_not_below(self):
        one = handler("handler h", "row p in project", "row t in task", "each task below p sets owner = 'x'")
        self.check(one, "task", (old("t"), OLD, OLD), [pattern("task"), pattern("project")],
                   "owner; state; project.owner; project.team.owner; project.team.lead")
        self.check(one, "task", (old("t"), old("p"), OLD), [pattern("task")],
                   "owner = 'x'; state; project.owner; project.team.owner; project.team.lead")
        self.check(one, "task", (OLD, old("p"), OLD), [pattern("task"), pattern("task", "owner state")],
                   "owner = 'x'; state; project.owner; project.team.owner; project.team.lead")

    def test_guards_change_rows_that_are_not_written(self):
        one = handler("handler h", "row t in task", "need t.owner = t.project.owner")
        self.check(one, "step", (OLD, old("t"), OLD, OLD), [pattern("step", "owner task.owner")],
                   "owner = task.owner = task.project.owner; task.state; task.project.team.owner; "
                   "task.project.team.lead")

    def test_patterns_with_other_constants_stay(self):
        one = handler("handler h", "row t in team", "set t.lead = 'b'")
        self.check(one, "team", (old("t"),), [pattern("team", "owner 'zz'")], "owner = 'zz'; lead = 'b'")


class FollowTest(StepCase):
    def setUp(self):
        self.schema = Schema.read("root a x y\ntable b a x y\ntable c b x y\nfollow b x x\nfollow c x x\nfollow c y y")

    def one(self, *lines):
        return handler("handler h", *lines, schema=self.schema)

    def pattern(self, table, *blocks):
        return pattern(table, *blocks, schema=self.schema)

    def test_columns_that_follow_in_the_pieces(self):
        self.check(self.one("row r in b"), "c", (OLD, old("r"), OLD), [self.pattern("c")],
                   "x = b.x = b.a.x; y = b.y; b.a.y")
        self.check(self.one("row r in b"), "c", (OLD, old("r"), OLD), [self.pattern("c", "x 'p'", "b.a.x 'q'")], None)
        self.check(self.one("row r in b"), "c", (OLD, old("r"), OLD), [self.pattern("c", "x 'p'", "y b.a.x")],
                   "x = y = b.x = b.y = b.a.x = 'p'; b.a.y")

    def test_columns_that_follow_in_a_piece_of_another_row(self):
        one = self.one("row r in c", "row s in a", "need s.x = r.x", "set s.y = r.b.a.x")
        self.check(one, "a", (old("s"),), [self.pattern("a"), self.pattern("c")], "x = y")
        self.check(one, "a", (old("s"),), [self.pattern("a"), self.pattern("c", "x 'p'", "b.x 'q'")], None)

    def test_they_are_overwritten_from_the_highest_level_downwards(self):
        one = self.one("row r in a", "row s in b", "set r.x = 'p'", "set s.x = 'q'", "set s.y = 'z'",
                       "each c below s sets x = 'w'", "each c below s sets y = 'w'")
        self.check(one, "c", (OLD, old("s"), old("r")), [self.pattern("c")],
                   "x = b.x = b.a.x = 'p'; y = b.y = 'z'; b.a.y")

    def test_a_row_that_is_moved_follows_its_new_parent(self):
        one = self.one("row r in b", "row s in a", "move r under s")
        self.check(one, "c", (OLD, old("r"), old("s")), [self.pattern("c", "x 'p'"), self.pattern("a", "x 'q'")],
                   "x = b.x = b.a.x = 'q'; y = b.y; b.a.y")

    def test_a_new_row_follows(self):
        one = self.one("row s in a", "new r in b under s with 'p' 'q'", "new t in c under r with me me")
        self.check(one, "c", (new("t"), new("r"), old("s")), [self.pattern("a")],
                   "x = b.x = b.a.x; y = b.y = 'q'; b.a.y")


class ErrorTest(AgreeTestCase):
    def setUp(self):
        self.one = handler("handler h", "row p in project", "row t in team")
        self.case = (old("p"), OLD)
        self.patterns = [pattern("project"), pattern("team")]

    def check(self, error, table, case, patterns):
        self.check_error(error, step, self.one, table, case, patterns)

    def test_no_error(self):
        self.assertIsNotNone(step(self.one, "project", self.case, self.patterns))

    def test_unknown_table(self):
        for case in (self.case, None, (), "x"):
            for patterns in (self.patterns, [], [pattern("note")]):
                self.check(UnknownName(0, "nope"), "nope", case, patterns)

    def test_no_case(self):
        for case in (None, 5, (), "x", (old("p"),), (old("t"), OLD), (("old", "p"), OLD), (new("p"), OLD)):
            for patterns in (self.patterns, [], [pattern("note")] * 7):
                self.check(BadCase(), "project", case, patterns)

    def test_wrong_count(self):
        for patterns in ([], [pattern("project")], [pattern("note")], self.patterns + self.patterns,
                         self.patterns + [pattern("note")], [pattern("note")] * 3):
            self.check(WrongCount(0), "project", self.case, patterns)

    def test_other_places(self):
        places = teams().positions("project")
        for patterns in ([pattern("team"), pattern("project")], [pattern("project"), pattern("note")],
                         [pattern("note"), pattern("team")], [pattern("task"), pattern("team")],
                         [Pattern(list(reversed(places)), []), pattern("team")],
                         [Pattern(places[:-1], []), pattern("team")],
                         [Pattern(places + ["x"], []), pattern("team")]):
            self.check(OtherPlaces(), "project", self.case, patterns)

    def test_other_places_although_two_constants_are_joined(self):
        one = handler("handler h", "row p in project", "need 'a' = 'b'")
        self.check_error(OtherPlaces(), step, one, "project", self.case, [pattern("team")])
        self.assertIsNone(step(one, "project", self.case, [pattern("project")]))


class ModelTest(StepCase):
    def random_one(self, seed):
        chance = random.Random(seed)
        schema = Schema.read(chance.choice(SCHEMAS))
        text = random_needs(chance, schema, random_handler(chance, schema, "h"), chance.choice([0, 1, 2, 3]))
        return chance, schema, Handler.read(schema, text), PlainSteps(schema.text, text)

    def test_against_the_model(self):
        counts = collections.Counter()
        for seed in range(500):
            chance, schema, one, plain = self.random_one(seed)
            for table in schema.tables():
                for case in plain.cases(table):
                    patterns = [random_pattern(chance, schema, home) for home in plain.pieces(table, case)]
                    texts = [str(each) for each in patterns]
                    wanted = plain.step(table, case, [each.blocks() for each in patterns])
                    with self.subTest(seed=seed, table=table, case=case):
                        self.check(one, table, case, patterns, wanted)
                        self.assertEqual([str(each) for each in patterns], texts)
                        lists = [[kind, list(named) if kind == "old" else named] for kind, named in case]
                        before = repr(lists)
                        self.check(one, table, lists, patterns, wanted)
                        self.assertEqual(repr(lists), before)
                    counts[wanted is None] += 1
        self.assertGreater(counts[True], 300, counts)
        self.assertGreater(counts[False], 1500, counts)

    def test_finer_patterns_make_a_finer_result(self):
        for seed in range(120):
            chance, schema, one, plain = self.random_one(seed)
            for table in schema.tables():
                for case in plain.cases(table):
                    homes = plain.pieces(table, case)
                    coarse = [random_pattern(chance, schema, home) for home in homes]
                    fine = [each & random_pattern(chance, schema, home) for each, home in zip(coarse, homes)]
                    found, wanted = step(one, table, case, fine), step(one, table, case, coarse)
                    if found is None:
                        self.assertIsNone(wanted)
                    if wanted is not None:
                        self.assertLessEqual(found, wanted)


class PlayedTest(AgreeTestCase):
    """Point 36: what a call does to the rows of a base is what the step of its case tells."""

    def filled(self, chance, schema, system):
        base = Base(system)
        for table in schema.tables() * 2:
            above = schema.parent_of(table)
            parent = None if above is None else chance.choice(base.numbers(above))
            base.put(table, parent, [chance.choice(VALUES) for _ in schema.columns(table)])
        return base

    def case_of(self, base, plain, call, made, address):
        """The case that describes the chain of a row after a call, and the lowest rows of its pieces."""
        _, _, numbers, _ = call
        arguments = {name: (table, number) for (name, table), number in zip(plain.params.items(), numbers)}
        names = {row: name for name, row in zip(plain.news, made)}
        chain = base[address].chain
        case = tuple(new(names[row]) if row in names else
                     old(*[name for name in plain.params if arguments[name] == row]) for row in chain)
        lowest = [chain[run[0]] for run in plain.runs(case)]
        return case, lowest + [arguments[name] for name in plain.others(case)]

    def test_each_call_is_told_by_a_step(self):
        counts = collections.Counter()
        for seed in range(400):
            chance = random.Random(seed)
            schema = Schema.read(chance.choice(SCHEMAS))
            text = random_needs(chance, schema, random_handler(chance, schema, "h"), chance.choice([0, 0, 1]))
            plain = PlainSteps(schema.text, text)
            one = Handler.read(schema, text)
            system = System(schema, [one])
            base = self.filled(chance, schema, system)
            for _ in range(6):
                try:
                    rows = tuple(chance.choice(base.numbers(table)) for table in plain.params.values())
                except IndexError:
                    break
                call = ("h", chance.choice(VALUES), rows, tuple(chance.choice(VALUES) for _ in plain.values))
                before = {(table, number): base.pattern_of(table, number)
                          for table in schema.tables() for number in base.numbers(table)}
                try:
                    made = base.run(call)
                except AgreeError:
                    continue
                for table in schema.tables():
                    for number in base.numbers(table):
                        self.check_row(base, plain, one, call, made, before, (table, number), counts)
        self.assertGreater(counts["told"], 2500, counts)
        self.assertGreater(counts["equal"], 500, counts)
        self.assertGreater(counts["no case"], 500, counts)

    def check_row(self, base, plain, one, call, made, before, address, counts):
        case, lowest = self.case_of(base, plain, call, made, address)
        found = base.pattern_of(*address)
        if not any(named for _, named in case):
            # No row of the chain is new or an argument: the call can not have changed it.
            self.assertEqual(found, before[address])
            counts["no case"] += 1
            return
        told = step(one, address[0], case, [before[row] for row in lowest])
        self.assertIsNotNone(told)
        self.assertLessEqual(told, found)
        counts["told"] += 1
        counts["equal"] += told == found

    def test_each_step_is_told_by_a_call(self):
        counts = collections.Counter()
        for seed in range(250):
            chance = random.Random(seed)
            schema = Schema.read(chance.choice(SCHEMAS))
            text = random_needs(chance, schema, random_handler(chance, schema, "h"), chance.choice([0, 1, 2]))
            plain = PlainSteps(schema.text, text)
            one = Handler.read(schema, text)
            for table in schema.tables():
                for case in cases(one, table):
                    patterns = [random_pattern(chance, schema, home, ("'a'", "'b'"))
                                for home in pieces(one, table, case)]
                    found = step(one, table, case, patterns)
                    counts[found is None] += 1
                    if found is not None:
                        with self.subTest(seed=seed, table=table, case=case):
                            self.check_played(schema, one, plain, table, case, patterns, found)
        self.assertGreater(counts[False], 1000, counts)

    def check_played(self, schema, one, plain, table, case, patterns, wanted):
        """Puts rows with the patterns of the pieces into a base and plays the call of the case."""
        other = Handler.read(schema, "handler other\nneed 'a' = 'b'")
        base = Base(System(schema, [one, other]))
        groups = plain.joint(table, case, [each.blocks() for each in patterns])
        values = {}
        for index, group in enumerate(groups):
            constant = [member.strip("'") for member in group if is_constant(member)] or [f"v{index}"]
            values.update({member: constant[0] for member in group})
        rows = []
        for index, home in enumerate(plain.pieces(table, case)):
            rows.append(self.put_chain(base, plain, home, lambda place: values[(index, place)]))
        numbers = []
        for name, home in plain.params.items():
            piece, low = plain.stand(table, case, name)
            numbers.append(rows[piece][plain.tables(low).index(home)][1])
        made = base.run(("h", values["me"], tuple(numbers), tuple(values[name] for name in plain.values)))
        if case[0][0] == "new":
            address = made[list(plain.news).index(case[0][1])]
        else:
            address = rows[0][0]
        self.assertEqual(self.case_of(base, plain, ("h", "", numbers, ()), made, address)[0], case)
        self.assertEqual(base.pattern_of(*address), wanted)

    def put_chain(self, base, plain, table, value_at):
        """Puts in the rows of a chain from the root downwards, and returns their addresses from the row upwards."""
        addresses = []
        for home in reversed(plain.tables(table)):
            cells = [value_at(plain.place(table, home, column)) for column in plain.base.columns[home]]
            number = base.put(home, addresses[0][1] if addresses else None, cells)
            addresses.insert(0, (home, number))
        return addresses


if __name__ == "__main__":
    unittest.main()
