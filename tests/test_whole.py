"""What the document promises over the whole program."""

import collections
import random
import unittest

from ownersagree.agreements import held, kept
from ownersagree.comparing import compare, compare_questions
from ownersagree.errors import TooManyPatterns
from ownersagree.handlers import Handler
from ownersagree.judging import idle_conditions, idle_needs, judge_agreement, judge_handler, judge_question
from ownersagree.patterns import Pattern
from ownersagree.questions import Question
from ownersagree.schemas import Schema
from ownersagree.surveys import survey
from ownersagree.systems import System
from ownersagree.verdicts import Touched
from tests.examples import system_of
from tests.helpers import AgreeTestCase
from tests.other_words import OtherWords
from tests.random_systems import (SCHEMAS, random_needs, random_owned_system, random_question, random_system_texts,
                                  with_owners)


class OtherWordsTest(AgreeTestCase):
    """The same system in other words tells the same in its words."""

    def blocks(self, words, pattern):
        return sorted(sorted(words.member(member) for member in block) for block in pattern.blocks())

    def pattern(self, words, other, table, pattern):
        places = other.schema.positions(words.tables[table])
        return Pattern(places, [[words.member(member) for member in block] for block in pattern.blocks()])

    def check_survey(self, words, found, other):
        for table in found.system.schema.tables():
            self.assertEqual(found.rounds, other.rounds)
            for depth in range(found.rounds + 1):
                self.assertEqual(sorted(self.blocks(words, pattern) for pattern in found.patterns(table, depth=depth)),
                                 sorted(sorted(sorted(block) for block in pattern.blocks())
                                        for pattern in other.patterns(words.tables[table], depth=depth)))
            for pattern in found.patterns(table):
                theirs = self.pattern(words, other.system, table, pattern)
                self.assertEqual(found.depth_of(table, pattern), other.depth_of(words.tables[table], theirs))

    def check_agreements(self, words, found, other):
        for mine, theirs in ((held(found), held(other)), (kept(found.system), kept(other.system))):
            for table in found.system.schema.tables():
                pattern, wanted = mine.pattern_of(table), theirs.pattern_of(words.tables[table])
                self.assertEqual(None if pattern is None else self.pattern(words, other.system, table, pattern), wanted)

    def check_handlers(self, words, found, other, orders):
        for name in found.system.names():
            one, two = judge_handler(found, name), judge_handler(other, words.name("", name))
            self.assertIs(type(one), type(two))
            self.assertEqual((one.depth, one.size is None), (two.depth, two.size is None))
            if isinstance(one, Touched):
                index, kind, table = one.way
                self.assertEqual(two.way, (index, kind, words.tables[table]))
            else:
                self.assertEqual(one.rests, two.rests)
            self.assertEqual(found.able(name), other.able(words.name("", name)))
            idle = idle_needs(other, words.name("", name))
            self.assertEqual(idle_needs(found, name), sorted(orders[name][at] for at in idle))

    def test_random_systems(self):
        for seed in range(60):
            chance, system = random_owned_system(seed)
            words = OtherWords(random.Random(seed + 1), system.schema.text)
            told = {name: words.text(system[name].text) for name in system.names()}
            texts = [text for text, _ in told.values()]
            words.chance.shuffle(texts)
            found, other = survey(system), survey(system_of(words.schema_text, *texts))
            with self.subTest(seed=seed):
                self.check_survey(words, found, other)
                self.check_agreements(words, found, other)
                self.check_handlers(words, found, other, {name: order for name, (_, order) in told.items()})
                for _ in range(4):
                    self.check_question(chance, words, found, other)
                self.check_agreement_verdicts(chance, words, found, other)

    def check_question(self, chance, words, found, other):
        schema = found.system.schema
        text = random_needs(chance, schema, random_question(chance, schema), chance.choice([0, 1, 2]))
        more = random_needs(chance, schema, text, 1)
        words.names = {key: name for key, name in words.names.items() if key[0] != "q"}
        mine = Question.read(schema, text)
        changed, order = words.text(text)
        theirs = Question.read(other.system.schema, changed)
        one, two = judge_question(found, mine), judge_question(other, theirs)
        self.assertIs(type(one), type(two))
        self.assertEqual(one.depth, two.depth)
        if one:
            self.assertEqual(one.rests, two.rests)
        self.assertEqual(idle_conditions(found, mine), sorted(order[at] for at in idle_conditions(other, theirs)))
        finer = compare_questions(found, mine, Question.read(schema, more))
        self.assertEqual(finer.depth is None, compare_questions(
            found, Question.read(schema, more), mine).depth is None)

    def check_agreement_verdicts(self, chance, words, found, other):
        schema = found.system.schema
        for _ in range(10):
            table = chance.choice(schema.tables())
            places = schema.positions(table)
            left, right = chance.choice(places), chance.choice(places + found.system.constants() + ["'zz'"])
            one = judge_agreement(found, (table, left, right))
            two = judge_agreement(other, (words.tables[table], words.member(left), words.member(right)))
            self.assertEqual((type(one), one.depth), (type(two), two.depth))


class MoreHandlersTest(AgreeTestCase):
    def test_no_pattern_gets_lost_or_deeper(self):
        for seed in range(60):
            _, system = random_owned_system(seed)
            handlers = [system[name] for name in system.names()]
            for count in range(1, len(handlers)):
                few = survey(System(system.schema, handlers[:count]))
                many = survey(System(system.schema, handlers[:count + 1]))
                self.assertLessEqual(few, many)
                for table in system.schema.tables():
                    for pattern in few.patterns(table):
                        self.assertLessEqual(many.depth_of(table, pattern), few.depth_of(table, pattern))
                self.assertLessEqual(held(many), held(few))
                self.assertLessEqual(kept(many.system), kept(few.system))

    def test_what_is_within_with_more_handlers_is_within_with_fewer(self):
        for seed in range(40):
            _, system = random_owned_system(seed)
            handlers = [system[name] for name in system.names()]
            few, many = survey(System(system.schema, handlers[:-1])), survey(system)
            for name in few.system.names():
                if judge_handler(many, name):
                    self.assertTrue(judge_handler(few, name))
                if few.able(name):
                    self.assertTrue(many.able(name))


class PartsTest(AgreeTestCase):
    """Two parts of a schema that do not touch tell what each tells alone."""

    PARTS = ("root a x y\ntable b a x\nowner b a.x\nfollow b x y", "root p x\ntable q p x\ntable r q x y\nowner q x\n"
             "owner r q.x", "root m k\nroot n k l\nowner n l\nowner m k")

    def test_two_parts(self):
        for seed in range(40):
            chance = random.Random(seed)
            parts = chance.sample(self.PARTS, 2)
            schemas = [Schema.read(part) for part in parts]
            texts = [random_system_texts(chance, schema, 3) for schema in schemas]
            texts = [[text.replace("handler ", f"handler {'xy'[side]}", 1) for text in part]
                     for side, part in enumerate(texts)]
            alone = [survey(system_of(part, *of_part)) for part, of_part in zip(parts, texts)]
            whole = survey(system_of("\n".join(parts), *texts[0], *texts[1]))
            with self.subTest(seed=seed):
                self.check(alone, whole)

    def check(self, alone, whole):
        self.assertEqual(whole.listing(), alone[0].listing() + alone[1].listing())
        self.assertEqual(whole.rounds, max(one.rounds for one in alone))
        self.assertEqual(held(whole).listed(), held(alone[0]).listed() + held(alone[1]).listed())
        self.assertEqual(kept(whole.system).listed(), kept(alone[0].system).listed() + kept(alone[1].system).listed())
        for one in alone:
            for name in one.system.names():
                mine, theirs = judge_handler(one, name), judge_handler(whole, name)
                self.assertEqual(mine.summary(), theirs.summary())
                self.assertEqual(idle_needs(one, name), idle_needs(whole, name))
                self.assertEqual(one.able(name), whole.able(name))


class WithoutFollowing:
    """A system without one column that follows; each place names what it follows instead."""

    def __init__(self, schema_text, table, column, source):
        self.table, self.column, self.source = table, column, source
        self.schema = Schema.read(schema_text)
        self.parent = self.schema.parent_of(table)
        lines = [line.split(" ") for line in schema_text.split("\n")]
        self.schema_text = "\n".join(self.schema_line(words) for words in lines if words != [
            "follow", table, column, source])

    def schema_line(self, words):
        if words[0] == "table" and words[1] == self.table:
            return " ".join(words[:3] + [name for name in words[3:] if name != self.column])
        if words[0] == "owner":
            return f"owner {words[1]} {self.place(words[1], words[2])}"
        return " ".join(words)

    def place(self, table, position):
        names = position.split(".")
        home = names[-2] if len(names) > 1 else table
        if (home, names[-1]) != (self.table, self.column):
            return position
        return ".".join(names[:-1] + [self.parent, self.source])

    def text(self, text):
        rows, found = {}, []
        for line in text.split("\n"):
            words = line.split(" ")
            if words[0] == "row":
                rows[words[1]] = words[3]
            if words[0] == "new" and words[3] == self.table:
                at = 7 if words[4] == "under" else 5
                del words[at + self.schema.columns(self.table).index(self.column)]
            if words[0] == "set":
                name, column = words[1].split(".")
                if (rows[name], column) == (self.table, self.column):
                    continue
            if words[0] == "each" and (words[1], words[5]) == (self.table, self.column):
                continue
            target = words[1] if words[0] == "set" else ""
            found.append(" ".join(self.term(rows, word) if "." in word and word is not target else word
                                  for word in words))
        return "\n".join(found)

    def term(self, rows, word):
        name, position = word.split(".", 1)
        return f"{name}.{self.place(rows[name], position)}"


class FollowingTest(AgreeTestCase):
    SCHEMAS = (
        "root a x y\ntable b a x y z\ntable c b x y\ntable d c x y\nfollow b x x\nfollow c x y\nowner c x\nowner d y",
        "root a x y\ntable b a x y\ntable c a x y\ntable d b x\nfollow b x y\nfollow c y x\nowner b x\nowner c y\n"
        "owner d b.x",
    )

    def test_columns_that_follow_may_be_left_out(self):
        counts = collections.Counter()
        for seed in range(60):
            chance = random.Random(seed)
            schema_text = chance.choice(self.SCHEMAS)
            schema = Schema.read(schema_text)
            texts = random_system_texts(chance, schema, 4)
            column = chance.choice([("b", *pair) for pair in schema.follows("b")] +
                                   [("c", *pair) for pair in schema.follows("c")])
            if any(column[:2] == (schema.parent_of(table), source) for table in schema.tables()
                   for _, source in schema.follows(table)):
                # Another column follows this one.
                continue
            less = WithoutFollowing(schema_text, *column)
            other = system_of(less.schema_text, *[less.text(text) for text in texts])
            with self.subTest(seed=seed):
                try:
                    found = survey(system_of(schema_text, *texts))
                except TooManyPatterns as error:
                    self.check_error(TooManyPatterns(error.table), survey, other)
                    continue
                self.check(found, survey(other), counts)
        self.assertGreater(counts["patterns"], 200, counts)

    def check(self, found, other, counts):
        self.assertEqual(found.rounds, other.rounds)
        for table in found.system.schema.tables():
            places = other.system.schema.positions(table)
            for depth in range(found.rounds + 1):
                wanted = [str(pattern) for pattern in other.patterns(table, depth=depth)]
                kept_ones = [str(Pattern(places, self.blocks(places, pattern)))
                             for pattern in found.patterns(table, depth=depth)]
                self.assertEqual(sorted(kept_ones), wanted)
                counts["patterns"] += len(wanted)
        for name in found.system.names():
            self.assertEqual(found.able(name), other.able(name))
            self.assertEqual(idle_needs(found, name), idle_needs(other, name))
            one, two = judge_handler(found, name), judge_handler(other, name)
            if len(found.system[name].deeds()) == len(other.system[name].deeds()):
                self.assertEqual(one.summary().split(" after ")[0], two.summary().split(" after ")[0])

    def blocks(self, places, pattern):
        """The blocks of a pattern without the positions that follow."""
        blocks = [[member for member in block if member in places or member.startswith("'")]
                  for block in pattern.blocks()]
        return [block for block in blocks if block[0] in places]


class SameTest(AgreeTestCase):
    def test_handlers_that_are_read_again(self):
        for seed in range(20):
            _, system = random_owned_system(seed)
            schema = Schema.read(system.schema.text)
            again = System(schema, [Handler.read(schema, system[name].text) for name in system.names()])
            first, second = survey(system), survey(again)
            self.assertEqual(first.listing(), second.listing())
            self.assertTrue(compare(first, second))
            for name in system.names():
                self.assertEqual(judge_handler(first, name).summary(), judge_handler(second, name).summary())

    def test_owner_lines_change_no_pattern(self):
        for seed in range(30):
            chance = random.Random(seed)
            text = chance.choice(SCHEMAS)
            texts = random_system_texts(chance, Schema.read(text), 4)
            first, second = [survey(system_of(one, *texts)) for one in (text, with_owners(chance, text))]
            self.assertEqual(first.listing(), second.listing())
            self.assertTrue(compare(first, second))


if __name__ == "__main__":
    unittest.main()
