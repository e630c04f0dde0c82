"""The interface: what is defined in which module, and in the body of which class."""

import inspect
import unittest

from ownersagree import (agreements, bases, cases, comparing, errors, handlers, histories, judging, patterns, questions,
                         repairs, schemas, surveys, systems, verdicts)
from tests.helpers import system, teams

ERRORS = [
    "AgreeError", "BadLine", "DuplicateName", "UnknownName", "WrongTable", "WrongCount", "TooMany", "BadPattern",
    "ConstantsMeet", "OtherPlaces", "OtherSchema", "BadValue", "NoRow", "Refused", "Broken", "BadCase",
    "TooManyPatterns", "BadDerivation", "NotReachable", "TooLong", "NotComparable", "BadOffer",
]
# The methods that stand in the body of each class.
METHODS = {
    schemas.Schema: ["read", "tables", "columns", "parent_of", "chain_of", "positions", "owner_of", "follows",
                     "__eq__"],
    patterns.Pattern: ["blocks", "__str__", "__len__", "__contains__", "__eq__", "__le__", "__and__", "__or__"],
    handlers.Handler: ["read", "row_parameters", "value_parameters", "needs", "deeds", "__call__"],
    systems.System: ["of", "names", "constants", "__getitem__", "__contains__", "__len__"],
    questions.Question: ["read", "row_parameters", "value_parameters", "found", "conditions"],
    bases.Base: ["run", "call", "run_all", "trial", "touched", "ask", "put", "numbers", "pattern_of", "depth_of",
                 "broken", "__getitem__", "__contains__", "__len__"],
    bases.Row: ["move", "parent", "chain", "__getitem__", "__setitem__"],
    bases.Trial: ["keep", "__enter__", "__exit__"],
    surveys.Survey: ["patterns", "depth_of", "able", "derivation", "listing", "__le__"],
    agreements.Agreements: ["of", "pattern_of", "listed", "__contains__", "__len__", "__eq__", "__le__", "__and__"],
    verdicts.Verdict: ["__bool__", "summary"],
    verdicts.Holds: [],
    verdicts.Fails: ["history"],
    verdicts.Within: [],
    verdicts.Asked: ["asked"],
    verdicts.Touched: [],
    verdicts.Parted: [],
    repairs.Repair: ["repaired", "lesser"],
}
# The functions of each module.
FUNCTIONS = {
    cases: ["cases", "pieces", "step"],
    surveys: ["survey"],
    histories: ["check_derivation", "history", "first_gap"],
    agreements: ["held", "kept"],
    judging: ["judge_agreement", "judge_question", "judge_handler", "idle_needs", "idle_conditions"],
    comparing: ["compare", "compare_questions"],
    repairs: ["edited", "repair"],
}
# The arguments of functions that are listed, without the object itself.
ARGUMENTS = {
    handlers.Handler.read: "(schema, text)",
    handlers.Handler.__call__: "(base, me, rows, values)",
    systems.System: "(schema, handlers)",
    systems.System.of: "(schema, *handlers)",
    questions.Question.read: "(schema, text)",
    bases.Base: "(system, *, watch=())",
    bases.Base.run: "(call)",
    bases.Base.call: "(name, me, *rows, **values)",
    bases.Base.run_all: "(calls, *, keep=True)",
    bases.Base.trial: "()",
    bases.Base.touched: "(call)",
    bases.Base.ask: "(question, me, rows, values)",
    bases.Base.put: "(table, parent, values)",
    bases.Base.numbers: "(table)",
    bases.Base.pattern_of: "(table, number)",
    bases.Base.depth_of: "(table, number)",
    bases.Base.broken: "(agreements)",
    bases.Row.move: "(number)",
    cases.cases: "(handler, table)",
    cases.pieces: "(handler, table, case)",
    cases.step: "(handler, table, case, patterns)",
    surveys.survey: "(system)",
    surveys.Survey.patterns: "(table, *, depth=None)",
    surveys.Survey.depth_of: "(table, pattern)",
    surveys.Survey.able: "(name)",
    surveys.Survey.derivation: "(table, pattern)",
    surveys.Survey.listing: "()",
    histories.check_derivation: "(system, lines)",
    histories.history: "(system, lines)",
    histories.first_gap: "(system, lists)",
    agreements.Agreements: "(schema, agreements)",
    agreements.Agreements.of: "(schema, *agreements)",
    agreements.Agreements.pattern_of: "(table)",
    agreements.held: "(survey)",
    agreements.kept: "(system, *, within=None)",
    verdicts.Verdict.summary: "()",
    verdicts.Fails.history: "()",
    verdicts.Asked.asked: "()",
    judging.judge_agreement: "(survey, agreement)",
    judging.judge_question: "(survey, question)",
    judging.judge_handler: "(survey, name)",
    judging.idle_needs: "(survey, name)",
    judging.idle_conditions: "(survey, question)",
    comparing.compare: "(first, second)",
    comparing.compare_questions: "(survey, first, second)",
    repairs.edited: "(system, offers)",
    repairs.repair: "(system, offers, *, wishes, able=())",
    repairs.Repair.repaired: "()",
    repairs.Repair.lesser: "()",
}


class InterfaceTest(unittest.TestCase):
    def test_each_class_is_defined_in_its_module(self):
        for name in ERRORS:
            self.assertEqual(getattr(errors, name).__module__, "ownersagree.errors")
        modules = [schemas, patterns, handlers, systems, questions, bases, bases, bases, surveys, agreements] + [
            verdicts] * 7 + [repairs]
        self.assertEqual(len(modules), len(METHODS))
        for owner, module in zip(METHODS, modules):
            with self.subTest(name=owner.__name__):
                self.assertEqual(owner.__module__, module.__name__)

    def test_each_function_is_defined_in_its_module(self):
        for module, names in FUNCTIONS.items():
            for name in names:
                self.assertEqual(vars(module)[name].__module__, module.__name__)

    def test_each_method_stands_in_its_class(self):
        for owner, names in METHODS.items():
            for name in names:
                with self.subTest(owner=owner.__name__, name=name):
                    self.assertIn(name, vars(owner))

    def test_static_methods(self):
        for owner, name in [(schemas.Schema, "read"), (handlers.Handler, "read"), (questions.Question, "read"),
                            (systems.System, "of"), (agreements.Agreements, "of")]:
            self.assertIsInstance(vars(owner)[name], staticmethod)

    def test_properties(self):
        self.assertIsNotNone(bases.Row.parent.fset)
        self.assertIsNone(bases.Row.chain.fset)
        self.assertIsNotNone(bases.Trial.keep.fset)

    def test_arguments(self):
        for function, wanted in ARGUMENTS.items():
            with self.subTest(function=function):
                found = str(inspect.signature(function)).replace("(self, ", "(").replace("(self)", "()")
                self.assertEqual(found, wanted)

    def test_attributes_are_set_on_each_object(self):
        schema, made = teams(), system(("handler h",))
        base = bases.Base(made)
        base.put("note", None, ["a"])
        objects = [
            (schema, ["text"]), (made, ["schema"]),
            (handlers.Handler.read(schema, "handler h"), ["name", "text", "schema"]),
            (questions.Question.read(schema, "question q\nfind n in note"), ["name", "text", "schema"]),
            (base, ["system"]), (base["note", 1], ["table", "number"]),
            (surveys.survey(made), ["system", "rounds"]), (agreements.Agreements(schema, []), ["schema"]),
            (repairs.repair(made, [], wishes=[]), ["chosen"]),
        ]
        for thing, names in objects:
            for name in names:
                self.assertIn(name, vars(thing))
        self.assertIs(base.trial().keep, True)

    def test_class_values(self):
        found = [vars(handlers.Handler)[name] for name in ("MOST_ROWS", "MOST_VALUES", "MOST_NEEDS", "MOST_DEEDS")]
        self.assertEqual(found, [3, 4, 8, 8])
        self.assertEqual(vars(systems.System)["MOST_HANDLERS"], 16)


if __name__ == "__main__":
    unittest.main()
