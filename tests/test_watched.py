"""Points 31 and 48: agreements, watched bases and `broken`."""

import unittest

from ownersagree.bases import Base
from ownersagree.errors import AgreeError, Broken, Refused, UnknownName
from ownersagree.schemas import Schema
from tests.helpers import AgreeTestCase, state_of, system

SAME = ("project", "owner", "team.owner")
COPY = ("task", "owner", "project.owner")
OPEN = ("task", "state", "'on'")
HANDLERS = [
    ("handler team", "value u", "new t in team with u me"),
    ("handler project", "row t in team", "value u", "new p in project under t with u"),
    ("handler task", "row p in project", "value u", "new k in task under p with p.owner u"),
    ("handler give", "row t in team", "value u", "set t.owner = u"),
    ("handler giveall", "row t in team", "value u", "set t.owner = u", "each project below t sets owner = u",
     "each task below t sets owner = u"),
    ("handler move", "row p in project", "row t in team", "move p under t"),
    ("handler brief", "row t in team", "new p in project under t with 'zz'", "take t"),
    ("handler guard", "row t in team", "need t.lead = 'x'", "set t.owner = 'zz'"),
]


class WatchCase(AgreeTestCase):
    def filled(self, watch):
        """Returns a base with two teams, two projects in each, and a task in each project, all of one owner."""
        base = Base(system(*HANDLERS), watch=watch)
        for team in (1, 2):
            base.call("team", "x", u="a")
            for _ in range(2):
                project = base.call("project", "x", team, u="a")[0][1]
                base.call("task", "x", project, u="on")
        return base

    def check_refused(self, base, agreement, number, name, me, rows, values):
        """Checks each way to make a call that breaks an agreement."""
        before = state_of(base)
        named = dict(zip(base.system[name].value_parameters(), values))
        call = (name, me, rows, values)
        for way in (lambda: base.run(call), lambda: base.call(name, me, *rows, **named), lambda: base.touched(call),
                    lambda: base.system[name](base, me, rows, values), lambda: base.run_all([call]),
                    lambda: base.run_all([call], keep=False)):
            error = self.check_error(Refused(name, None, agreement, number), way)
            self.assertIs(type(error.agreement), tuple)
            self.assertIs(type(error.__cause__), Broken)
            self.assertEqual(vars(error.__cause__), {"agreement": agreement, "number": number})
            self.assertEqual(state_of(base), before)


class CallTest(WatchCase):
    def test_calls_that_keep_the_agreements(self):
        base = self.filled([SAME, COPY, OPEN])
        base.call("giveall", "x", 1, u="b")
        self.assertEqual([base["project", number]["owner"] for number in base.numbers("project")], ["b", "b", "a", "a"])

    def test_a_call_that_breaks_one(self):
        base = self.filled([SAME, COPY, OPEN])
        self.check_refused(base, SAME, 1, "give", "x", (1,), ("b",))
        self.check_refused(base, SAME, 3, "give", "x", (2,), ("b",))
        self.check_refused(base, SAME, 5, "project", "x", (1,), ("b",))
        self.check_refused(base, OPEN, 5, "task", "x", (3,), ("off",))

    def test_refused_calls_use_up_no_number(self):
        base = self.filled([SAME])
        for _ in range(2):
            with self.assertRaises(Refused):
                base.call("project", "x", 1, u="b")
        self.assertEqual(base.call("project", "x", 1, u="a"), [("project", 5)])

    def test_the_first_agreement_of_the_list(self):
        other = ("project", "team.owner", "'a'")
        self.check_refused(self.filled([SAME, other]), SAME, 3, "give", "x", (2,), ("b",))
        self.check_refused(self.filled([other, SAME]), other, 3, "give", "x", (2,), ("b",))
        team = ("team", "owner", "'a'")
        self.check_refused(self.filled([COPY, OPEN, team, SAME]), team, 2, "give", "x", (2,), ("b",))

    def test_the_least_number(self):
        base = self.filled([SAME])
        base.call("giveall", "x", 2, u="b")
        self.check_refused(base, SAME, 2, "move", "x", (2, 2), ())
        self.check_refused(base, SAME, 1, "give", "x", (1,), ("b",))

    def test_rows_that_the_call_takes_break_nothing(self):
        base = self.filled([SAME])
        self.assertEqual(base.call("brief", "x", 1), [("project", 5)])
        self.assertEqual(base.numbers("project"), [3, 4])

    def test_the_guards_come_first(self):
        base = self.filled([SAME])
        base["team", 1]["lead"] = "y"
        self.check_error(Refused("guard", 0), base.call, "guard", "x", 1)
        self.check_refused(base, SAME, 3, "guard", "x", (2,), ())

    def test_without_a_watch_all_is_allowed(self):
        for base in (Base(system(*HANDLERS)), Base(system(*HANDLERS), watch=[]), Base(system(*HANDLERS), watch=())):
            base.call("team", "x", u="a")
            base.call("project", "x", 1, u="b")
            self.assertEqual(base.broken([SAME]), (SAME, 1))

    def test_run_all_is_checked_after_each_call(self):
        base = self.filled([SAME])
        before = state_of(base)
        calls = [("team", "x", (), ("b",)), ("give", "x", (1,), ("b",)), ("giveall", "x", (1,), ("b",))]
        error = self.check_error(Refused("give", None, SAME, 1), base.run_all, calls)
        self.assertIs(type(error.__cause__), Broken)
        self.assertEqual(state_of(base), before)
        self.assertEqual(base.run_all(calls[::2]), [[("team", 3)], []])

    def test_a_base_that_is_watched_in_a_trial(self):
        base = self.filled([SAME])
        before = state_of(base)
        with self.assertRaises(Refused), base.trial():
            base.call("giveall", "x", 1, u="b")
            base.call("give", "x", 1, u="c")
        self.assertEqual(state_of(base), before)


class EditTest(WatchCase):
    def check_broken(self, base, agreement, number, edit):
        before = state_of(base)
        error = self.check_error(Broken(agreement, number), edit)
        self.assertIs(type(error.agreement), tuple)
        self.assertEqual(state_of(base), before)

    def change(self, row, column, value):
        row[column] = value

    def test_columns(self):
        base = self.filled([SAME, COPY])
        self.check_broken(base, SAME, 2, lambda: self.change(base["project", 2], "owner", "b"))
        self.check_broken(base, SAME, 3, lambda: self.change(base["team", 2], "owner", "b"))
        self.check_broken(base, COPY, 4, lambda: self.change(base["task", 4], "owner", "b"))
        base["team", 1]["lead"] = "z"
        base["task", 1]["state"] = "z"

    def test_moves(self):
        base = self.filled([SAME])
        base.call("giveall", "x", 2, u="b")
        self.check_broken(base, SAME, 1, lambda: base["project", 1].move(2))
        self.check_broken(base, SAME, 4, lambda: setattr(base["project", 4], "parent", 1))
        base["task", 1].parent = 4

    def test_put(self):
        base = self.filled([SAME])
        self.check_broken(base, SAME, 5, lambda: base.put("project", 1, ["b"]))
        self.assertEqual(base.put("project", 1, ["a"]), 5)

    def test_the_other_errors_come_first(self):
        base = self.filled([("team", "owner", "'a'"), SAME])
        for error, edit in ((ValueError, lambda: self.change(base["team", 1], "owner", "")),
                            (ValueError, lambda: self.change(base["team", 1], "state", "b")),
                            (ValueError, lambda: base.put("project", 9, ["b"])),
                            (ValueError, lambda: base.put("project", 1, [""])),
                            (ValueError, lambda: base["project", 1].move(9))):
            with self.assertRaises(error) as caught:
                edit()
            self.assertNotIsInstance(caught.exception, Broken)

    def test_columns_that_follow_are_overwritten_before_the_check(self):
        schema = Schema.read("root a x\ntable b a x\nfollow b x x")
        base = Base(system(("handler h", "row r in a", "value u", "set r.x = u"), schema=schema),
                    watch=[("b", "x", "a.x"), ("b", "x", "'one'")])
        base.put("a", None, ["one"])
        self.assertEqual(base.put("b", 1, ["two"]), 1)
        base["b", 1]["x"] = "three"
        self.assertEqual(base["b", 1]["x"], "one")
        self.check_error(Refused("h", None, ("b", "x", "'one'"), 1), base.call, "h", "me", 1, u="two")


class WatchListTest(WatchCase):
    def test_the_list_may_be_changed(self):
        watch = [SAME]
        base = self.filled(watch)
        watch.clear()
        self.check_refused(base, SAME, 1, "give", "x", (1,), ("b",))
        watch = []
        base = self.filled(watch)
        watch.append(SAME)
        base.call("give", "x", 1, u="b")

    def test_the_list_is_not_changed(self):
        watch = [SAME, COPY]
        self.filled(watch)
        self.assertEqual(watch, [SAME, COPY])

    def test_a_tuple(self):
        self.check_refused(self.filled((SAME,)), SAME, 1, "give", "x", (1,), ("b",))

    def test_what_is_no_agreement(self):
        made = system(*HANDLERS)
        cases = [
            (("nope", "nope2", "nope3"), "nope"), (("owner", "owner", "owner"), "owner"),
            (("team", "nope", "nope2"), "nope"), (("team", "'a'", "owner"), "'a'"), (("team", "'a'", "nope"), "'a'"),
            (("team", "owner", "nope"), "nope"), (("team", "owner", "state"), "state"),
            (("team", "owner", "team.owner"), "team.owner"), (("team", "owner", "'A'"), "'A'"),
            (("team", "owner", "''"), "''"), (("team", "owner", "a"), "a"), (("team", "owner", "me"), "me"),
            (("team", "owner", "'abcdefghij01234567890'"), "'abcdefghij01234567890'"),
            (("project", "team", "owner"), "team"), (("task", "team.owner", "owner"), "team.owner"),
            (("task", "owner", "project.team.state"), "project.team.state"),
        ]
        for agreement, name in cases:
            for agreements in ([agreement], [SAME, agreement], [agreement, ("nope9", "a", "b")]):
                self.check_error(UnknownName(0, name), Base, made, watch=agreements)
                self.check_error(UnknownName(0, name), Base(made).broken, agreements)

    def test_all_are_checked_before_the_rows(self):
        base = Base(system(*HANDLERS))
        base.call("team", "x", u="a")
        base.call("project", "x", 1, u="b")
        self.check_error(UnknownName(0, "nope"), base.broken, [SAME, ("team", "owner", "nope")])


class BrokenTest(WatchCase):
    def test_none(self):
        base = self.filled([])
        self.assertIsNone(base.broken([]))
        self.assertIsNone(base.broken([SAME, COPY, OPEN]))
        self.assertIsNone(base.broken((SAME,)))
        self.assertIsNone(base.broken([("note", "text", "'a'")]))

    def test_the_first_agreement_and_the_least_number(self):
        base = self.filled([])
        base["project", 2]["owner"] = "b"
        base["project", 3]["owner"] = "b"
        base["task", 4]["state"] = "off"
        self.assertEqual(base.broken([SAME]), (SAME, 2))
        self.assertEqual(base.broken([OPEN, SAME]), (OPEN, 4))
        self.assertEqual(base.broken([("team", "owner", "'a'"), SAME, OPEN]), (SAME, 2))
        self.assertEqual(base.broken([("task", "state", "state"), COPY]), (COPY, 2))

    def test_kinds_of_what_is_returned(self):
        base = self.filled([])
        found = base.broken([("task", "state", "'off'")])
        self.assertEqual([type(found), type(found[0]), type(found[1])], [tuple, tuple, int])

    def test_constants_that_the_system_does_not_have(self):
        base = self.filled([])
        self.assertIsNone(base.broken([("team", "owner", "'a'")]))
        self.assertEqual(base.broken([("team", "owner", "'b'")]), (("team", "owner", "'b'"), 1))

    def test_it_changes_nothing(self):
        base = self.filled([])
        before = state_of(base)
        agreements = [OPEN, SAME]
        base.broken(agreements)
        self.assertEqual((state_of(base), agreements), (before, [OPEN, SAME]))

    def test_positions_far_above(self):
        base = self.filled([])
        far = ("task", "project.team.owner", "owner")
        self.assertIsNone(base.broken([far]))
        base["team", 2]["owner"] = "z"
        self.assertEqual(base.broken([far]), (far, 3))

    def test_a_watched_base_is_never_broken(self):
        base = self.filled([SAME, COPY])
        for name, rows, values in (("give", (1,), ("b",)), ("giveall", (1,), ("b",)), ("move", (1, 2), ()),
                                   ("project", (1,), ("a",)), ("project", (1,), ("b",)), ("task", (2,), ("q",))):
            try:
                base.run((name, "x", rows, values))
            except AgreeError as error:
                self.assertIs(type(error), Refused)
            self.assertIsNone(base.broken([SAME, COPY]))


if __name__ == "__main__":
    unittest.main()
