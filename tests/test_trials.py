"""Point 32: several calls at once, and trials."""

import unittest

from ownersagree.bases import Base, Trial
from ownersagree.errors import AgreeError, NoRow, Refused, UnknownName
from tests.helpers import AgreeTestCase, state_of, system


class Stop(Exception):
    """An error that is none of the package."""


class TrialCase(AgreeTestCase):
    def setUp(self):
        self.base = Base(system(
            ("handler note", "new n in note with me"),
            ("handler remark", "row x in note", "need x.text = me", "new r in remark under x with me"),
            ("handler drop", "row x in note", "take x"),
        ))
        self.base.run(("note", "ann", (), ()))
        self.base.run(("remark", "ann", (1,), ()))
        self.before = state_of(self.base)

    def check_before(self):
        """Checks that all is as before, the next numbers included."""
        self.assertEqual(state_of(self.base), self.before)
        with self.base.trial() as trial:
            self.assertEqual(self.base.put("note", None, ["a"]), 2)
            self.assertEqual(self.base.put("remark", 1, ["a"]), 2)
            trial.keep = False


class RunAllTest(TrialCase):
    def test_what_each_run_returns(self):
        found = self.base.run_all([("note", "bob", (), ()), ("remark", "bob", (2,), ()), ("drop", "bob", (1,), ())])
        self.assertEqual(found, [[("note", 2)], [("remark", 2)], []])
        self.assertEqual(sorted(state_of(self.base)), [("note", 2), ("remark", 2)])
        self.assertEqual(self.base.depth_of("remark", 2), 2)

    def test_no_calls(self):
        self.assertEqual(self.base.run_all([]), [])
        self.assertEqual(self.base.run_all((), keep=False), [])
        self.check_before()

    def test_the_same_as_one_run_after_the_other(self):
        calls = [("note", "bob", (), ()), ("remark", "bob", (2,), ()), ("drop", "bob", (1,), ())]
        other = Base(self.base.system)
        for call in [("note", "ann", (), ()), ("remark", "ann", (1,), ())] + calls:
            other.run(call)
        self.base.run_all(calls)
        self.assertEqual(state_of(self.base), state_of(other))

    def test_an_error_in_the_middle(self):
        first = [("note", "bob", (), ()), ("remark", "bob", (2,), ()), ("drop", "bob", (1,), ())]
        for wrong, error in ((("remark", "cid", (2,), ()), Refused("remark", 0)),
                             (("nope", "cid", (), ()), UnknownName(0, "nope")),
                             (("drop", "cid", (1,), ()), NoRow("note", 1))):
            for keep in (True, False):
                self.check_error(error, self.base.run_all, first + [wrong] + first, keep=keep)
                self.check_before()

    def test_an_error_at_the_beginning_and_at_the_end(self):
        good, wrong = ("note", "bob", (), ()), ("note", "", (), ())
        for calls in ([wrong, good], [good, wrong], [wrong]):
            with self.assertRaises(AgreeError):
                self.base.run_all(calls)
            self.check_before()

    def test_keep_false(self):
        calls = [("note", "bob", (), ()), ("remark", "bob", (2,), ()), ("drop", "bob", (1,), ())]
        self.assertEqual(self.base.run_all(calls, keep=False), [[("note", 2)], [("remark", 2)], []])
        self.check_before()
        self.assertEqual(self.base.run_all(calls, keep=True), [[("note", 2)], [("remark", 2)], []])
        self.assertNotIn(("note", 1), self.base)

    def test_calls_are_not_changed(self):
        calls = [("note", "bob", [], [])]
        self.base.run_all(calls)
        self.assertEqual(calls, [("note", "bob", [], [])])


class TrialTest(TrialCase):
    def change(self):
        self.base.call("note", "bob")
        self.base.call("remark", "ann", 1)
        self.base["remark", 1].parent = 2
        self.base["note", 1]["text"] = "z"
        self.base.put("remark", 1, ["q"])
        self.base.call("drop", "bob", 2)

    def test_a_trial_that_is_kept(self):
        with self.base.trial() as trial:
            self.assertIsInstance(trial, Trial)
            self.assertIs(trial.keep, True)
            self.change()
        self.assertEqual(sorted(state_of(self.base)), [("note", 1), ("remark", 2), ("remark", 3)])
        self.assertEqual(self.base["note", 1]["text"], "z")

    def test_a_trial_that_is_undone(self):
        with self.base.trial() as trial:
            self.change()
            trial.keep = False
        self.check_before()

    def test_keep_counts_at_the_end_of_the_block(self):
        with self.base.trial() as trial:
            trial.keep = False
            self.change()
            trial.keep = True
        self.assertEqual(len(self.base), 3)
        self.before = state_of(self.base)
        with self.base.trial() as trial:
            trial.keep = False
            self.base.call("note", "bob")
            self.assertEqual(len(self.base), 4)
        self.assertEqual(state_of(self.base), self.before)

    def test_keep_tells_what_was_set(self):
        trial, other = self.base.trial(), self.base.trial()
        for wanted in (False, True, False, False, True, True):
            trial.keep = wanted
            self.assertIs(trial.keep, wanted)
            self.assertIs(other.keep, True)

    def test_an_error_counts_whatever_keep_tells(self):
        for kept in ([], [True], [False], [False, True], [True, False]):
            with self.assertRaises(Stop):
                with self.base.trial() as trial:
                    self.change()
                    for wanted in kept:
                        trial.keep = wanted
                    raise Stop()
            self.check_before()

    def test_a_trial_without_a_name(self):
        with self.base.trial():
            self.base.call("note", "bob")
        self.assertEqual(self.base.numbers("note"), [1, 2])

    def test_an_error_that_leaves_the_block(self):
        for error in (Stop("stop"), ValueError("v"), Refused("h", 0), KeyboardInterrupt()):
            with self.assertRaises(type(error)) as caught:
                with self.base.trial() as trial:
                    self.change()
                    trial.keep = True
                    raise error
            self.assertIs(caught.exception, error)
            self.check_before()

    def test_an_error_within_the_block(self):
        with self.base.trial():
            self.base.call("note", "bob")
            with self.assertRaises(Refused):
                self.base.call("remark", "cid", 1)
        self.assertEqual(self.base.numbers("note"), [1, 2])

    def test_an_error_of_the_base_that_leaves_the_block(self):
        with self.assertRaises(Refused):
            with self.base.trial():
                self.change()
                self.base.call("remark", "cid", 1)
        self.check_before()

    def test_return_and_break_leave_no_error(self):
        for _ in range(3):
            with self.base.trial():
                self.base.call("note", "bob")
                break
        self.assertEqual(self.base.numbers("note"), [1, 2])

    def test_the_block_begins_with_the_statement(self):
        trial = self.base.trial()
        self.assertIs(trial.keep, True)
        self.base.call("note", "bob")
        with trial as same:
            self.assertIs(same, trial)
            self.base.call("note", "cid")
            trial.keep = False
        self.assertEqual(self.base.numbers("note"), [1, 2])
        self.assertEqual(self.base.call("note", "dan"), [("note", 3)])

    def test_numbers_and_depths_are_as_before(self):
        with self.base.trial() as trial:
            for _ in range(5):
                self.base.call("remark", "ann", 1)
            self.assertEqual((self.base.depth_of("note", 1), self.base.numbers("remark")), (7, [1, 2, 3, 4, 5, 6]))
            trial.keep = False
        self.assertEqual(self.base.depth_of("note", 1), 2)
        self.assertEqual(self.base.call("remark", "ann", 1), [("remark", 2)])


class NestedTest(TrialCase):
    def nest(self, outer, inner):
        with self.base.trial() as first:
            self.base.call("note", "out")
            with self.base.trial() as second:
                self.base.call("note", "in")
                second.keep = inner
            self.base.call("note", "end")
            first.keep = outer
        return [self.base["note", number]["text"] for number in self.base.numbers("note")]

    def test_kept_in_kept(self):
        self.assertEqual(self.nest(True, True), ["ann", "out", "in", "end"])

    def test_undone_in_kept(self):
        self.assertEqual(self.nest(True, False), ["ann", "out", "end"])
        self.assertEqual(self.base.numbers("note"), [1, 2, 3])

    def test_kept_in_undone(self):
        self.assertEqual(self.nest(False, True), ["ann"])
        self.check_before()

    def test_undone_in_undone(self):
        self.assertEqual(self.nest(False, False), ["ann"])
        self.check_before()

    def test_an_error_through_both(self):
        with self.assertRaises(Stop):
            with self.base.trial():
                self.base.call("note", "out")
                with self.base.trial():
                    self.base.call("note", "in")
                    raise Stop()
        self.check_before()

    def test_an_error_through_the_inner_one(self):
        with self.base.trial():
            self.base.call("note", "out")
            with self.assertRaises(Stop), self.base.trial():
                self.base.call("note", "in")
                raise Stop()
            self.base.call("note", "end")
        self.assertEqual(self.base.numbers("note"), [1, 2, 3])
        self.assertEqual(self.base["note", 3]["text"], "end")

    def test_run_all_in_a_trial(self):
        with self.base.trial() as trial:
            self.base.run_all([("note", "bob", (), ()), ("drop", "bob", (1,), ())])
            self.base.run_all([("note", "cid", (), ())], keep=False)
            with self.assertRaises(NoRow):
                self.base.run_all([("note", "dan", (), ()), ("drop", "bob", (1,), ())])
            self.assertEqual(self.base.numbers("note"), [2])
            trial.keep = False
        self.check_before()


if __name__ == "__main__":
    unittest.main()
