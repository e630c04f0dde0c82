"""Point 64: offers."""

import copy
import unittest

from ownersagree.errors import BadLine, BadOffer, DuplicateName, TooMany, UnknownName, WrongTable
from ownersagree.repairs import edited
from ownersagree.surveys import survey
from ownersagree.systems import System
from tests.examples import BAD_GIVE, PLAN, PROJECTS, START, projects, system_of
from tests.helpers import AgreeTestCase

FOLLOW = ("follow", "task", "owner", "owner")
EACH = ("line", "give", "each task below p sets owner = u")


class EditedTest(AgreeTestCase):
    def setUp(self):
        self.system = projects(BAD_GIVE)

    def texts(self, offers, system=None):
        """Returns the texts of the edited schema and handlers; checks that the system and the offers stay."""
        system = system or self.system
        before = (system.schema.text, [system[name].text for name in system.names()], copy.copy(offers))
        found = edited(system, offers)
        self.assertIsInstance(found, System)
        self.assertEqual((system.schema.text, [system[name].text for name in system.names()], offers), before)
        self.assertEqual(found.names(), system.names())
        for name in found.names():
            self.assertEqual(found[name].schema.text, found.schema.text)
        return found.schema.text, {name: found[name].text for name in found.names()}

    def test_no_offers(self):
        for offers in ([], ()):
            self.assertEqual(self.texts(offers), (PROJECTS, {"start": START, "plan": PLAN, "give": BAD_GIVE}))

    def test_a_need_line_behind_the_last_one(self):
        _, texts = self.texts([("line", "give", "need u = me")])
        self.assertEqual(texts["give"], "handler give\nrow p in project\nvalue u\nneed p.owner = me\nneed u = me\n"
                                        "set p.owner = u")
        self.assertEqual((texts["start"], texts["plan"]), (START, PLAN))

    def test_a_need_line_where_there_is_none(self):
        system = system_of(PROJECTS, "handler only", "handler rows\nrow p in project\nset p.owner = me",
                           "handler values\nvalue u\nnew n in project with u",
                           "handler mixed\nvalue u\nrow p in project\n"
                           "value v\ntake p", "handler last\nvalue u\nrow p in project")
        offers = [("line", name, "need me = 'a'") for name in system.names()]
        _, texts = self.texts(offers, system)
        self.assertEqual(texts, {
            "only": "handler only\nneed me = 'a'",
            "rows": "handler rows\nrow p in project\nneed me = 'a'\nset p.owner = me",
            "values": "handler values\nvalue u\nneed me = 'a'\nnew n in project with u",
            "mixed": "handler mixed\nvalue u\nrow p in project\nvalue v\nneed me = 'a'\ntake p",
            "last": "handler last\nvalue u\nrow p in project\nneed me = 'a'"})

    def test_set_and_each_lines_behind_the_last_line(self):
        _, texts = self.texts([EACH, ("line", "give", "set p.owner = me"), ("line", "plan", "set p.owner = 'a'")])
        self.assertEqual(texts["give"], f"{BAD_GIVE}\neach task below p sets owner = u\nset p.owner = me")
        self.assertEqual(texts["plan"], f"{PLAN}\nset p.owner = 'a'")
        system = system_of(PROJECTS, "handler h\nrow p in project", "handler k\nrow p in project\nneed p.owner = me")
        _, texts = self.texts([("line", "h", "set p.owner = me"), ("line", "k", "each task below p sets owner = me")],
                              system)
        self.assertEqual(texts, {"h": "handler h\nrow p in project\nset p.owner = me",
                                 "k": "handler k\nrow p in project\nneed p.owner = me\n"
                                      "each task below p sets owner = me"})

    def test_a_follow_line_at_the_end_of_the_schema(self):
        schema, texts = self.texts([FOLLOW])
        self.assertEqual(schema, f"{PROJECTS}\nfollow task owner owner")
        self.assertEqual(texts, {"start": START, "plan": PLAN, "give": BAD_GIVE})
        self.assertEqual(edited(self.system, [FOLLOW]).schema.follows("task"), [("owner", "owner")])

    def test_several_in_turn(self):
        schema, texts = self.texts([
            ("line", "give", "need u = 'a'"), ("line", "give", "set p.owner = 'b'"), FOLLOW,
            ("line", "give", "need me = u"),
            EACH, ("line", "start", "need me = 'a'")])
        self.assertEqual(schema, f"{PROJECTS}\nfollow task owner owner")
        self.assertEqual(texts["give"], "handler give\nrow p in project\nvalue u\nneed p.owner = me\nneed u = 'a'\n"
                                        "need me = u\nset p.owner = u\nset p.owner = 'b'\n"
                                        "each task below p sets owner = u")
        self.assertEqual(texts["start"], "handler start\nneed me = 'a'\nnew p in project with me")
        self.assertEqual(texts["plan"], PLAN)

    def test_a_second_offer_behind_the_first_one(self):
        # Where the second line is put depends on the first one.
        system = system_of(PROJECTS, "handler h\nrow p in project\nnew n in task under p with me")
        _, texts = self.texts([("line", "h", "need p.owner = me"), ("line", "h", "need me = 'a'"),
                               ("line", "h", "set p.owner = 'b'"),
                               ("line", "h", "each task below p sets owner = me")], system)
        self.assertEqual(texts["h"], "handler h\nrow p in project\nneed p.owner = me\nneed me = 'a'\n"
                                     "new n in task under p with me\nset p.owner = 'b'\n"
                                     "each task below p sets owner = me")

    def test_a_line_below_a_new_row(self):
        system = system_of("root a x\ntable b a x", "handler h\nrow q in b\nnew n in a with me\nmove q under n")
        _, texts = self.texts([("line", "h", "each b below n sets x = me")], system)
        self.assertEqual(texts["h"],
                         "handler h\nrow q in b\nnew n in a with me\nmove q under n\neach b below n sets x = me")

    def test_earlier_handlers_are_read_over_the_new_schema(self):
        found = edited(self.system, [("line", "give", "need u = u"), FOLLOW])
        for name in found.names():
            self.assertEqual(found[name].schema, found.schema)
        self.assertEqual(survey(found).listing(),
                         ["project         1 owner", "task            2 owner = project.owner"])

    def test_tuples_of_offers(self):
        self.assertEqual(self.texts((EACH,)), self.texts([EACH]))


class BadOfferTest(AgreeTestCase):
    def setUp(self):
        self.system = projects(BAD_GIVE)

    def check(self, offer):
        """Checks that something is no offer, wherever it stands."""
        good = ("line", "give", "need u = me")
        self.check_error(BadOffer(0), edited, self.system, [offer])
        self.check_error(BadOffer(0), edited, self.system, [offer, None, good])
        self.check_error(BadOffer(2), edited, self.system, [good, EACH, offer, good])

    def test_lists(self):
        self.check(["line", "give", "need u = me"])
        self.check(list(FOLLOW))

    def test_offers_of_any_kind(self):
        for offer in (None, 0, True, "", "line", "abc", "abcd", b"abc", {}, {"line": 1},
                      {"line", "give", "need u = me"},
                      object(), 1.5, (), ((),), ("line",), ("follow",)):
            self.check(offer)

    def test_other_words(self):
        for word in ("", "Line", "lines", "line ", "follows", "row", None, 0, True, ("line",), b"line", {}):
            self.check((word, "give", "need u = me"))
            self.check((word, "task", "owner", "owner"))

    def test_other_lengths(self):
        self.check(("line", "give"))
        self.check(("line", "give", "need u = me", "need u = me"))
        self.check(("line", "give", "need u = me", ""))
        self.check(FOLLOW[:3])
        self.check(FOLLOW[:2])
        self.check(FOLLOW + ("x",))

    def test_members_that_are_no_strings(self):
        for member in (None, 0, True, b"give", ("give",), ["give"], {}, object()):
            self.check(("line", member, "need u = me"))
            self.check(("line", "give", member))
            for at in (1, 2, 3):
                self.check(FOLLOW[:at] + (member,) + FOLLOW[at + 1:])

    def test_members_with_a_newline(self):
        for member in ("need u = me\n", "\nneed u = me", "need u = me\nset p.owner = u", "need\n", "need \n"):
            self.check(("line", "give", member))
        self.check(("line", "give\n", "need u = me"))
        self.check(("line", "\n", "need u = me"))
        for member in ("task\n", "owner\n", "\n", "owner\nfollow task owner owner"):
            for at in (1, 2, 3):
                self.check(FOLLOW[:at] + (member,) + FOLLOW[at + 1:])

    def test_lines_of_another_kind(self):
        for line in ("", "need", "set", "each", "row q in project", "value v", "new n in project with me", "take p",
                     "move p under p", "handler give", " need u = me", "Need u = me", "needs u = me", "need\tu = me",
                     "needu = me", "sets p.owner = me", "eachtask below p sets owner = u", "SET p.owner = me",
                     "follow task owner owner", "where u = me"):
            self.check(("line", "give", line))
            self.check(("line", "nope", line))


class ErrorTest(AgreeTestCase):
    def setUp(self):
        self.system = projects(BAD_GIVE)

    def check(self, error, *offers):
        self.check_error(error, edited, self.system, list(offers))

    def test_unknown_handlers(self):
        for name in ("nope", "", "Give", "give ", "task", "a b"):
            self.check(UnknownName(0, name), ("line", name, "need u = me"))
            self.check(UnknownName(0, name), ("line", name, "need x.y.z = "))

    def test_wrong_need_lines(self):
        for line in ("need ", "need u", "need u =", "need u = me ", "need  u = me", "need u = U", "need u == me",
                     "need u = me = u"):
            self.check(BadLine(5), ("line", "give", line))
            self.check(BadLine(6), ("line", "give", "need u = u"), ("line", "give", line))
        self.check(UnknownName(5, "v"), ("line", "give", "need u = v"))
        self.check(UnknownName(5, "team"), ("line", "give", "need p.team.owner = me"))
        self.check(UnknownName(2, "u"), ("line", "start", "need u = me"))

    def test_wrong_set_and_each_lines(self):
        self.check(BadLine(6), ("line", "give", "set "))
        self.check(BadLine(6), ("line", "give", "set p.owner.x = u"))
        self.check(BadLine(6), ("line", "give", "each task below p set owner = u"))
        self.check(UnknownName(6, "lead"), ("line", "give", "set p.lead = u"))
        self.check(UnknownName(6, "q"), ("line", "give", "set q.owner = u"))
        self.check(UnknownName(6, "team"), ("line", "give", "each team below p sets owner = u"))
        self.check(WrongTable(6, "project"), ("line", "give", "each project below p sets owner = u"))
        self.check(BadLine(7), EACH, ("line", "give", "set p.owner = "))
        self.check(BadLine(7), ("line", "give", "need u = u"), ("line", "give", "set p.owner = "))

    def test_limits(self):
        self.check(TooMany(12), *[("line", "give", "need u = u")] * 8)
        edited(self.system, [("line", "give", "need u = u")] * 7)
        self.check(TooMany(13), *[("line", "give", "set p.owner = u")] * 8)
        edited(self.system, [("line", "give", "set p.owner = u")] * 7)

    def test_wrong_follow_lines(self):
        self.check(UnknownName(4, "nope"), ("follow", "nope", "owner", "owner"))
        self.check(UnknownName(4, "lead"), ("follow", "task", "lead", "owner"))
        self.check(UnknownName(4, "lead"), ("follow", "task", "owner", "lead"))
        self.check(UnknownName(4, "owner"), ("follow", "project", "owner", "owner"))
        for wrong in ("", "Task", "a b", " task", "task ", "a.b", "'a'"):
            for at in (1, 2, 3):
                self.check(BadLine(4), FOLLOW[:at] + (wrong,) + FOLLOW[at + 1:])
        self.check(DuplicateName(5, "owner"), FOLLOW, FOLLOW)
        self.check(DuplicateName(5, "owner"), ("line", "give", "need u = u"), FOLLOW, EACH, FOLLOW)

    def test_each_offer_is_looked_at_in_turn(self):
        self.check(BadLine(5), ("line", "give", "need "), None)
        self.check(BadOffer(0), None, ("line", "give", "need "))
        self.check(UnknownName(0, "nope"), FOLLOW, ("line", "nope", "need "), None)
        self.check(DuplicateName(5, "owner"), FOLLOW, FOLLOW, ("line", "nope", "need "))

    def test_nothing_has_changed_after_an_error(self):
        self.check(BadOffer(2), EACH, FOLLOW, None)
        self.assertEqual(self.system.schema.text, PROJECTS)
        self.assertEqual(self.system["give"].text, BAD_GIVE)


if __name__ == "__main__":
    unittest.main()
