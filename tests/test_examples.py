"""The examples of points 67 and 68, word for word."""

import doctest
import unittest

EXAMPLES = r'''
>>> from ownersagree.schemas import Schema
>>> from ownersagree.handlers import Handler
>>> from ownersagree.systems import System
>>> from ownersagree.surveys import survey
>>> schema = Schema.read("root project owner\ntable task project owner\nowner task owner")
>>> start = Handler.read(schema, "handler start\nnew p in project with me")
>>> plan = Handler.read(schema, "handler plan\nrow p in project\nneed p.owner = me\nnew t in task under p with me")
>>> give = Handler.read(schema, "handler give\nrow p in project\nvalue u\nneed p.owner = me\nset p.owner = u\neach task below p sets owner = u")
>>> survey(System.of(schema, start, plan, give)).listing()
['project         1 owner', 'task            2 owner = project.owner']

>>> from ownersagree.schemas import Schema
>>> from ownersagree.handlers import Handler
>>> from ownersagree.systems import System
>>> from ownersagree.surveys import survey
>>> from ownersagree.judging import judge_agreement
>>> schema = Schema.read("root project owner\ntable task project owner\nowner task owner")
>>> start = Handler.read(schema, "handler start\nnew p in project with me")
>>> plan = Handler.read(schema, "handler plan\nrow p in project\nneed p.owner = me\nnew t in task under p with me")
>>> give = Handler.read(schema, "handler give\nrow p in project\nvalue u\nneed p.owner = me\nset p.owner = u")
>>> judge_agreement(survey(System.of(schema, start, plan, give)), ("task", "owner", "project.owner")).summary()
'fails at depth 3 after 3 calls'

>>> from ownersagree.schemas import Schema
>>> from ownersagree.handlers import Handler
>>> from ownersagree.systems import System
>>> from ownersagree.surveys import survey
>>> from ownersagree.agreements import held, kept
>>> schema = Schema.read("root box a b c\ntable link box x y")
>>> left = Handler.read(schema, "handler left\nvalue u\nvalue v\nnew n in box with u u v")
>>> right = Handler.read(schema, "handler right\nvalue u\nvalue v\nnew n in box with u v v")
>>> copy = Handler.read(schema, "handler copy\nrow p in box\nneed p.a = p.c\nnew n in link under p with p.b p.a")
>>> system = System(schema, [left, right, copy])
>>> (("link", "x", "y") in held(survey(system)), ("link", "x", "y") in kept(system))
(True, False)
'''


class ExamplesTest(unittest.TestCase):
    def test_the_examples(self):
        found = doctest.DocTestParser().get_doctest(EXAMPLES, {}, "examples", None, 0)
        told = doctest.DocTestRunner(verbose=False).run(found)
        self.assertEqual((told.failed, told.attempted), (0, 30))


if __name__ == "__main__":
    unittest.main()

