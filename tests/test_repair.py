"""Points 65 and 66: repairs."""

import collections
import inspect
import itertools
import unittest

from ownersagree.agreements import held
from ownersagree.bases import Base
from ownersagree.errors import AgreeError, BadLine, BadOffer, TooMany, TooManyPatterns, UnknownName
from ownersagree.judging import judge_agreement
from ownersagree.repairs import Repair, edited, repair
from ownersagree.surveys import survey
from ownersagree.verdicts import Fails
from tests.examples import BAD_GIVE, PLAN, PROJECTS, START, grid_texts, projects, system_of
from tests.helpers import AgreeTestCase
from tests.random_systems import random_deed, random_term
from tests.test_agreements import random_agreements
from tests.test_surveys import random_system

FOLLOW = ("follow", "task", "owner", "owner")
EACH = ("line", "give", "each task below p sets owner = u")
SAME = ("line", "give", "need u = me")
NEVER = ("line", "give", "need 'a' = 'b'")
IDLE = ("line", "give", "need u = u")
WISH = ("task", "owner", "project.owner")


class RepairCase(AgreeTestCase):
    def told(self, found):
        """Returns what lesser() yields, with summaries in the place of verdicts; each verdict is checked."""
        return [(choice, reason, None if verdict is None else verdict.summary())
                for choice, reason, verdict in found.lesser()]

    def check_lesser(self, system, offers, found):
        for choice, reason, verdict in found.lesser():
            changed = edited(system, [offers[at] for at in choice])
            if verdict is None:
                self.assertFalse(survey(changed).able(reason))
            else:
                self.assertIs(type(verdict), Fails)
                self.assertIsInstance(reason, tuple)
                base = Base(changed)
                calls, address = verdict.history()
                base.run_all(calls)
                self.assertEqual(base.depth_of(*address), verdict.depth)
                self.assertEqual(base.broken([reason])[0], reason)


class ExampleTest(RepairCase):
    def setUp(self):
        self.system = projects(BAD_GIVE)

    def check(self, offers, chosen, lesser, wishes=(WISH,), able=()):
        found = repair(self.system, offers, wishes=wishes, able=able)
        self.assertIsInstance(found, Repair)
        self.assertEqual(found.chosen, chosen)
        self.assertEqual(self.told(found), lesser)
        self.assertEqual(self.told(found), lesser)
        self.check_lesser(self.system, offers, found)
        if chosen is None:
            self.assertIs(found.repaired(), self.system)
        else:
            wanted = edited(self.system, [offers[at] for at in chosen])
            self.assertEqual(found.repaired().schema.text, wanted.schema.text)
            self.assertEqual([found.repaired()[name].text for name in wanted.names()],
                             [wanted[name].text for name in wanted.names()])
        return found

    def bad(self, *choices):
        return [(choice, WISH, "fails at depth 3 after 3 calls") for choice in choices]

    def test_one_offer(self):
        for offer in (FOLLOW, EACH, SAME, NEVER):
            self.check([offer], (0,), self.bad(()))

    def test_the_first_of_several(self):
        self.check([IDLE, EACH, FOLLOW], (1,), self.bad((), (0,)))
        self.check([IDLE, FOLLOW, EACH], (1,), self.bad((), (0,)))

    def test_nothing_is_needed(self):
        found = self.check([FOLLOW, EACH], (), [], wishes=[("task", "owner", "owner")])
        self.assertEqual(found.repaired().names(), ["start", "plan", "give"])
        self.check([FOLLOW, EACH], (), [], wishes=[])
        self.check([], (), [], wishes=())

    def test_no_offers(self):
        self.check([], None, self.bad(()))

    def test_no_choice_works(self):
        self.check([IDLE, IDLE], None, self.bad((), (0,), (1,), (0, 1)))
        self.check([EACH, FOLLOW], None, [
            (choice, ("project", "owner", "'a'"), "fails at depth 1 after 1 calls")
            for choice in ((), (0,), (1,), (0, 1))], wishes=[("project", "owner", "'a'"), WISH])

    def test_able(self):
        self.check([NEVER, EACH], (1,), self.bad(()) + [((0,), "give", None)], able=["give"])
        self.check([NEVER, EACH], (0,), self.bad(()), able=["start", "plan"])
        self.check([NEVER], None, self.bad(()) + [((0,), "give", None)], able=("plan", "give", "start"))
        self.check([NEVER, SAME], (1,), self.bad(()) + [((0,), "give", None)], able=("give",))

    def test_able_as_a_list_and_as_a_tuple(self):
        for able in (["give", "plan"], ("give", "plan")):
            found = repair(self.system, [NEVER], wishes=[WISH], able=able)
            self.assertEqual((found.chosen, self.told(found)), (None, self.bad(()) + [((0,), "give", None)]))

    def test_the_first_handler_that_can_not_be_called(self):
        offers = [("line", "start", "need 'a' = 'b'")]
        self.check(offers, None, self.bad(()) + [((0,), "plan", None)], able=["plan", "give", "start"])
        self.check(offers, None, self.bad(()) + [((0,), "start", None)], able=["start", "plan"])
        self.check(offers, (0,), self.bad(()))

    def test_a_handler_that_could_never_be_called(self):
        system = system_of(PROJECTS, PLAN)
        found = repair(system, [], wishes=[WISH], able=["plan"])
        self.assertEqual((found.chosen, self.told(found)), (None, [((), "plan", None)]))
        self.assertIs(found.repaired(), system)

    def test_the_first_wish_that_fails(self):
        other = ("project", "owner", "'a'")
        offers = [EACH, ("line", "start", "need me = 'a'"), ("line", "give", "need u = 'a'")]
        self.check(offers, (1, 2), [
            ((), WISH, "fails at depth 3 after 3 calls"), ((0,), other, "fails at depth 1 after 1 calls"),
            ((1,), WISH, "fails at depth 3 after 3 calls"), ((2,), WISH, "fails at depth 3 after 3 calls"),
            ((0, 1), other, "fails at depth 2 after 2 calls"), ((0, 2), other, "fails at depth 1 after 1 calls")],
            wishes=[WISH, other])

    def test_wishes_as_lists(self):
        found = repair(self.system, [FOLLOW], wishes=[list(WISH)])
        self.assertEqual((found.chosen, self.told(found)), ((0,), self.bad(())))

    def test_the_order_of_the_choices(self):
        found = repair(self.system, [IDLE] * 4, wishes=[WISH])
        wanted = [choice for length in range(5) for choice in itertools.combinations(range(4), length)]
        self.assertEqual([choice for choice, _, _ in found.lesser()], wanted)
        self.assertEqual(wanted[:7], [(), (0,), (1,), (2,), (3,), (0, 1), (0, 2)])

    def test_five_offers(self):
        found = repair(self.system, [IDLE] * 5, wishes=[WISH])
        self.assertEqual(len(list(found.lesser())), 32)
        self.check([IDLE] * 4 + [EACH], (4,), self.bad((), (0,), (1,), (2,), (3,)))

    def test_a_generator(self):
        self.assertTrue(inspect.isgeneratorfunction(Repair.lesser))
        found = repair(self.system, [FOLLOW], wishes=[WISH])
        first = found.lesser()
        self.assertEqual(next(first)[:2], ((), WISH))
        self.assertEqual(next(found.lesser())[:2], ((), WISH))
        self.assertEqual(list(first), [])

    def test_arguments_stay_as_they_were(self):
        offers, wishes, able = [IDLE, EACH], [WISH], ["give"]
        repair(self.system, offers, wishes=wishes, able=able)
        self.assertEqual((offers, wishes, able), ([IDLE, EACH], [WISH], ["give"]))
        self.assertEqual(self.system["give"].text, BAD_GIVE)

    def test_lists_that_are_changed_afterwards(self):
        offers, wishes = [IDLE, EACH], [WISH]
        found = repair(self.system, offers, wishes=wishes)
        offers.clear()
        wishes.clear()
        self.assertEqual(self.told(found), self.bad((), (0,)))
        self.assertIn("each task", found.repaired()["give"].text)

    def test_wishes_are_passed_by_keyword(self):
        with self.assertRaises(TypeError):
            repair(self.system, [], [WISH])
        with self.assertRaises(TypeError):
            repair(self.system, [])

    def test_an_attribute_of_each_object(self):
        self.assertIn("chosen", vars(repair(self.system, [], wishes=[])))


class ErrorTest(AgreeTestCase):
    def setUp(self):
        self.system = projects(BAD_GIVE)

    def check(self, error, offers, wishes, able=()):
        self.check_error(error, repair, self.system, offers, wishes=wishes, able=able)

    def test_too_many_offers(self):
        for offers in ([IDLE] * 6, [None] * 6, [IDLE] * 7, (FOLLOW,) * 6):
            self.check(TooMany(0), offers, [("nope", "x", "y")], ["nope"])

    def test_errors_of_edited_come_next(self):
        wrong = ([("nope", "x", "y")], ["nope"])
        self.check(BadOffer(1), [IDLE, None], *wrong)
        self.check(BadOffer(0), [list(IDLE)], *wrong)
        self.check(UnknownName(0, "zz"), [IDLE, ("line", "zz", "need u = me")], *wrong)
        self.check(BadLine(6), [IDLE, ("line", "give", "need ")], *wrong)
        self.check(UnknownName(4, "nope"), [("follow", "nope", "owner", "owner")], *wrong)

    def test_errors_of_all_offers_together(self):
        # Each of them could be chosen alone.
        self.assertEqual(repair(self.system, [FOLLOW], wishes=[WISH]).chosen, (0,))
        with self.assertRaises(AgreeError):
            repair(self.system, [FOLLOW, FOLLOW], wishes=[WISH])
        with self.assertRaises(AgreeError):
            repair(self.system, [FOLLOW, FOLLOW], wishes=[])

    def test_wrong_wishes(self):
        for wrong, name in ((("nope", "x", "y"), "nope"), (("task", "x", "y"), "x"), (("task", "owner", "y"), "y"),
                            (("task", "'a'", "owner"), "'a'")):
            self.check(UnknownName(0, name), [IDLE], [WISH, wrong, ("zz", "zz", "zz")], ["nope"])
            self.check(UnknownName(0, name), [], [wrong])

    def test_unknown_handlers(self):
        for name in ("nope", "", "task", "Give"):
            self.check(UnknownName(0, name), [IDLE], [WISH], ["give", name, "zz"])
            self.check(UnknownName(0, name), [], [], (name,))

    def test_too_many_patterns(self):
        # The offer makes 46 patterns out of 40.
        texts = grid_texts([5, 8], "t")
        system = system_of("root t c0 c1", *texts)
        offers = [("line", "t1x1", "set r.c0 = 'k9'")]
        wish = ("t", "c0", "'k0'")
        self.check_error(TooManyPatterns("t"), repair, system, offers, wishes=[wish])
        self.assertEqual(repair(system, offers, wishes=[]).chosen, ())
        self.assertEqual(repair(system, [], wishes=[wish]).chosen, None)
        # The choice before works, so that the one with too many patterns is not tried.
        more = [("line", "tstart", "need 'x' = 'y'")] + offers
        self.assertEqual(repair(system, more, wishes=[wish]).chosen, (0,))
        self.check_error(TooManyPatterns("t"), repair, system, list(reversed(more)), wishes=[wish])
        self.check_error(TooManyPatterns("t"), repair, system_of("root t c0 c1", *grid_texts([7, 7], "t")), [],
                         wishes=[])


class RandomTest(RepairCase):
    def random_offer(self, chance, system):
        schema = system.schema
        if chance.random() < 0.3:
            table = chance.choice([name for name in schema.tables() if schema.parent_of(name) is not None])
            above = schema.parent_of(table)
            return ("follow", table, chance.choice(schema.columns(table)), chance.choice(schema.columns(above)))
        one = system[chance.choice(system.names())]
        rows, values = one.row_parameters(), one.value_parameters()
        terms = [random_term(chance, schema, rows, values) for _ in range(2)]
        line = f"need {terms[0]} = {terms[1]}"
        if chance.random() < 0.6:
            deed = random_deed(chance, schema, rows, values, [])
            if deed.startswith(("set ", "each ")):
                line = deed
        return ("line", one.name, line)

    def random_offers(self, chance, system):
        offers = []
        while len(offers) < 3:
            offer = self.random_offer(chance, system)
            try:
                edited(system, offers + [offer])
            except AgreeError:
                continue
            offers.append(offer)
        return offers

    def plain_repair(self, system, offers, wishes, able):
        tried = []
        for length in range(len(offers) + 1):
            for choice in itertools.combinations(range(len(offers)), length):
                found = survey(edited(system, [offers[at] for at in choice]))
                bad = [wish for wish in wishes if wish not in held(found)]
                unable = [name for name in able if not found.able(name)]
                if not bad and not unable:
                    return choice, tried
                tried.append((choice, bad[0], judge_agreement(found, bad[0]).summary()) if bad
                             else (choice, unable[0], None))
        return None, tried

    def test_against_all_choices(self):
        counts = collections.Counter()
        for seed in range(50):
            chance, system = random_system(seed, extra=3)
            offers = self.random_offers(chance, system)
            holds = held(survey(edited(system, offers)))
            wishes = [wish for wish in random_agreements(chance, system.schema, 30) if wish in holds][:3]
            able = [name for name in system.names() if chance.random() < 0.3]
            found = repair(system, offers, wishes=wishes, able=able)
            wanted, tried = self.plain_repair(system, offers, wishes, able)
            self.assertEqual((found.chosen, self.told(found)), (wanted, tried))
            self.check_lesser(system, offers, found)
            if wanted is not None:
                for wish in wishes:
                    self.assertTrue(judge_agreement(survey(found.repaired()), wish))
            counts[None if wanted is None else len(wanted)] += 1
            counts.update("able" if summary is None else "wish" for _, _, summary in tried)
        for name in (None, 0, 1, "able", "wish"):
            self.assertGreater(counts[name], 2, counts)


if __name__ == "__main__":
    unittest.main()
