"""Points 22 to 31, 56 and 59: bases against a plain model, over random systems and histories."""

import collections
import copy
import random
import unittest

from ownersagree.bases import Base
from ownersagree.errors import AgreeError
from ownersagree.handlers import Handler
from ownersagree.questions import Question
from ownersagree.schemas import Schema
from ownersagree.systems import System
from tests.helpers import state_of
from tests.plain_model import PlainBase, PlainError
from tests.random_systems import SCHEMAS, VALUES, random_arguments, random_handler, random_question


class Pair:
    """A base and its model, which must tell the same of each action."""

    def __init__(self, test, seed, watched=False):
        self.test = test
        self.chance = random.Random(seed)
        self.schema = Schema.read(self.chance.choice(SCHEMAS))
        texts = [random_handler(self.chance, self.schema, f"h{index}") for index in range(6)]
        self.system = System(self.schema, [Handler.read(self.schema, text) for text in texts])
        self.watch = [self.agreement() for _ in range(3)] if watched else []
        self.base = Base(self.system, watch=self.watch)
        self.model = PlainBase(self.schema.text, texts)
        self.counts = collections.Counter()
        for table in self.schema.tables() * 3:
            self.put(table)

    def agreement(self):
        table = self.chance.choice(self.schema.tables())
        places = self.schema.positions(table)
        return (table, self.chance.choice(places), self.chance.choice(places * 3 + ["'a'", "'b'"]))

    def watched(self, plain, handler):
        """Does something to the model; raises the error of a watched base if it breaks an agreement."""
        found = plain()
        broken = self.model.broken(self.watch)
        if broken is not None and handler is None:
            raise PlainError("Broken", agreement=broken[0], number=broken[1])
        if broken is not None:
            raise PlainError("Refused", handler=handler, guard=None, agreement=broken[0], number=broken[1])
        return found

    def both(self, real, plain, handler=None):
        """Does the same to both; returns what both return, or None if both raise the same error."""
        before = copy.deepcopy((self.model.rows, self.model.last))
        try:
            wanted = self.watched(plain, handler)
        except PlainError as error:
            self.counts[error.kind] += 1
            self.model.rows, self.model.last = before
            with self.test.assertRaises(AgreeError) as caught:
                real()
            self.test.assertEqual((type(caught.exception).__name__, vars(caught.exception)), (error.kind, error.told))
            return None
        self.test.assertEqual(real(), wanted)
        return wanted

    def act(self):
        """Does something at random."""
        action = self.chance.choice(["run"] * 8 + ["put", "put", "set", "move", "ask", "ask"])
        if action == "put":
            self.put(self.chance.choice(self.schema.tables()))
        else:
            getattr(self, action)()
        self.counts[action] += 1
        self.compare()

    def run(self):
        name = self.chance.choice(self.system.names() + ["none"] * (self.chance.random() < 0.1))
        handler = self.system["h0" if name == "none" else name]
        me, rows, values = random_arguments(self.chance, self.base, handler)
        kept = copy.deepcopy((self.model.rows, self.model.last))
        touched = self.both(lambda: self.base.touched((name, me, rows, values)),
                            lambda: self.model.run(name, me, rows, values)[1], name)
        self.model.rows, self.model.last = kept
        self.compare()
        made = self.both(self.one_way_to_run(name, me, rows, values),
                         lambda: self.model.run(name, me, rows, values)[0], name)
        if made is not None:
            self.counts["done"] += 1
            self.counts.update([f"done {line.split(' ')[0]}" for line in handler.deeds()])
        self.test.assertEqual(made is None, touched is None)

    def one_way_to_run(self, name, me, rows, values):
        if name != "none" and len(values) == len(self.system[name].value_parameters()):
            named = dict(zip(self.system[name].value_parameters(), values))
            if self.chance.random() < 0.3:
                return lambda: self.base.call(name, me, *rows, **dict(reversed(list(named.items()))))
            if self.chance.random() < 0.3:
                return lambda: self.system[name](self.base, me, list(rows), list(values))
        return lambda: self.base.run((name, me, rows, values))

    def put(self, table):
        above = self.schema.parent_of(table)
        parent = None if above is None else self.chance.choice(self.base.numbers(above) or [7])
        if self.chance.random() < 0.1:
            parent = self.chance.choice([None, 0, 1, 50])
        values = [self.chance.choice(VALUES) for _ in self.schema.columns(table)]
        if self.chance.random() < 0.1:
            values = values[1:] + self.chance.choice([[], [""], ["a", "b"], [5]])
        self.both(lambda: self.base.put(table, parent, values), lambda: self.model.put(table, parent, values))

    def some_row(self):
        pool = sorted(self.model.rows)
        return self.chance.choice(pool) if pool else None

    def set(self):
        address = self.some_row()
        if address is not None:
            column = self.chance.choice(self.schema.columns(address[0]) * 5 + ["none"])
            value = self.chance.choice(VALUES * 3 + [None])
            self.both(lambda: self.base[address].__setitem__(column, value),
                      lambda: self.model.set(address, column, value))

    def move(self):
        address = self.some_row()
        if address is not None:
            above = self.schema.parent_of(address[0])
            number = self.chance.choice((self.base.numbers(above) if above else [1]) * 3 + [None, 0])
            if self.chance.random() < 0.5:
                self.both(lambda: self.base[address].move(number), lambda: self.model.move(address, number))
            else:
                self.both(lambda: setattr(self.base[address], "parent", number),
                          lambda: self.model.move(address, number))

    def ask(self):
        text = random_question(self.chance, self.schema)
        question = Question.read(Schema.read(self.schema.text), text)
        me, rows, values = random_arguments(self.chance, self.base, question)
        self.both(lambda: self.base.ask(question, me, rows, values), lambda: self.model.ask(text, me, rows, values))

    def compare(self):
        self.test.assertEqual(state_of(self.base), self.model.state())
        self.test.assertEqual(len(self.base), len(self.model.rows))
        for table in self.schema.tables():
            numbers = sorted(number for name, number in self.model.rows if name == table)
            self.test.assertEqual(self.base.numbers(table), numbers)

    def compare_rows(self):
        for address in self.model.rows:
            self.test.assertEqual(self.base[address].chain, self.model.chain(address))
            self.test.assertIn(address, self.base)
            places = self.model.positions(address[0])
            read = {place: self.base[address][place] for place in places}
            self.test.assertEqual(read, {place: self.model.value(address, place) for place in places})
            pattern = self.base.pattern_of(*address)
            self.test.assertEqual(list(pattern.places), places)
            for first in places:
                for second in places:
                    self.test.assertEqual((first, second) in pattern, read[first] == read[second])
                for value in VALUES:
                    joined = read[first] == value and f"'{value}'" in self.system.constants()
                    self.test.assertEqual((first, f"'{value}'") in pattern, joined)


class ModelTest(unittest.TestCase):
    def test_random_histories(self):
        counts = collections.Counter()
        for seed in range(150):
            with self.subTest(seed=seed):
                pair = Pair(self, seed)
                for _ in range(40):
                    pair.act()
                pair.compare_rows()
                counts += pair.counts
        # The histories must reach what they are made for.
        for name in ("WrongCount", "BadValue", "NoRow", "Refused", "UnknownName", "WrongTable", "done new", "done move",
                     "done set", "done each", "done take"):
            self.assertGreater(counts[name], 100, counts)
        self.assertGreater(counts["done"], 1500, counts)

    def test_random_histories_of_watched_bases(self):
        counts = collections.Counter()
        for seed in range(1000, 1080):
            with self.subTest(seed=seed):
                pair = Pair(self, seed, watched=True)
                for _ in range(40):
                    pair.act()
                pair.compare_rows()
                self.assertIsNone(pair.base.broken(pair.watch))
                counts += pair.counts
                other = [pair.agreement() for _ in range(3)]
                self.assertEqual(pair.base.broken(other), pair.model.broken(other))
        self.assertGreater(counts["Broken"], 100, counts)
        self.assertGreater(counts["done"], 200, counts)


if __name__ == "__main__":
    unittest.main()
