"""Points 2, 3 and 12 to 15: patterns."""

import itertools
import unittest

from ownersagree.errors import BadPattern, ConstantsMeet, OtherPlaces, UnknownName
from ownersagree.patterns import Pattern
from ownersagree.schemas import Schema

TASK = ["owner", "state", "project.owner", "project.team.owner"]
ABC = ["a", "b", "c"]


def divisions(places):
    """Returns each way to divide the places into blocks."""
    if not places:
        return [[]]
    found = []
    for blocks in divisions(places[1:]):
        found.append([[places[0]]] + blocks)
        for at in range(len(blocks)):
            found.append(blocks[:at] + [[places[0]] + blocks[at]] + blocks[at + 1:])
    return found


def all_patterns(places, constants):
    """Returns every pattern of the places with none, some or all of the constants."""
    found = []
    for blocks in divisions(places):
        for choice in itertools.product([None, *constants], repeat=len(blocks)):
            chosen = [constant for constant in choice if constant is not None]
            if len(set(chosen)) == len(chosen):
                found.append(Pattern(places, [block + [constant] * (constant is not None)
                                              for block, constant in zip(blocks, choice)]))
    return found


def joins_of(pattern, members):
    """Returns the set of the joined pairs, as the blocks tell them."""
    pairs = {(member, member) for member in members}
    for block in pattern.blocks():
        pairs.update(itertools.product(block, block))
    return pairs


def closed(pairs):
    """Returns the pairs and all that follows from them."""
    pairs = set(pairs)
    while True:
        more = {(first, last) for first, middle in pairs for other, last in pairs if middle == other} - pairs
        if not more:
            return pairs
        pairs |= more


class PatternTestCase(unittest.TestCase):
    def check_bad(self, place, blocks, places=tuple(TASK)):
        with self.assertRaises(BadPattern) as caught:
            Pattern(list(places), blocks)
        self.assertEqual(caught.exception.place, place, blocks)


class CreateTest(PatternTestCase):
    def test_without_lists_each_position_has_its_own_block(self):
        pattern = Pattern(TASK, [])
        self.assertEqual(pattern.blocks(), [[place] for place in TASK])
        self.assertEqual(len(pattern), 4)
        self.assertEqual(str(pattern), "owner; state; project.owner; project.team.owner")

    def test_members_and_lists_in_any_order(self):
        blocks = [["project.owner", "'open'", "state"], ["project.team.owner", "owner"]]
        wanted = [["owner", "project.team.owner"], ["state", "project.owner", "'open'"]]
        for lists in itertools.permutations(blocks):
            for first in itertools.permutations(lists[0]):
                for second in itertools.permutations(lists[1]):
                    pattern = Pattern(TASK, [list(first), list(second)])
                    self.assertEqual(pattern.blocks(), wanted)
                    self.assertEqual(str(pattern),
                                     "owner = project.team.owner; state = project.owner = 'open'")
                    self.assertEqual(len(pattern), 2)

    def test_single_positions_left_out_or_not(self):
        state, owner = ["state"], ["project.owner"]
        for more in ([], [state], [owner], [owner, state], [state, owner]):
            pattern = Pattern(TASK, more + [["project.team.owner", "owner"]])
            self.assertEqual(pattern.blocks(), [["owner", "project.team.owner"], ["state"], ["project.owner"]])
            self.assertEqual(pattern, Pattern(TASK, [["owner", "project.team.owner"]]))

    def test_the_order_is_that_of_the_places_and_not_of_the_letters(self):
        pattern = Pattern(["z", "a", "m"], [["m", "a"], ["z"]])
        self.assertEqual(pattern.blocks(), [["z"], ["a", "m"]])
        self.assertEqual(Pattern(["m", "z", "a"], [["a", "m"]]).blocks(), [["m", "a"], ["z"]])

    def test_a_block_with_one_position_and_a_constant(self):
        for block in (["state", "'open'"], ["'open'", "state"]):
            pattern = Pattern(TASK, [block])
            self.assertEqual(pattern.blocks(),
                             [["owner"], ["state", "'open'"], ["project.owner"], ["project.team.owner"]])
            self.assertEqual(str(pattern), "owner; state = 'open'; project.owner; project.team.owner")

    def test_the_text_of_the_document(self):
        pattern = Pattern(["owner", "state", "project.owner"], [["'open'", "state"], ["project.owner", "owner"]])
        self.assertEqual(str(pattern), "owner = project.owner; state = 'open'")

    def test_one_place_and_none(self):
        self.assertEqual(str(Pattern(["a"], [["a"]])), "a")
        self.assertEqual((str(Pattern([], [])), len(Pattern([], [])), Pattern([], []).blocks()), ("", 0, []))

    def test_many_places(self):
        places = [f"p{at}" for at in range(40)]
        pattern = Pattern(places, [places[::-1]])
        self.assertEqual((len(pattern), pattern.blocks()), (1, [places]))

    def test_constants_of_any_allowed_form(self):
        for constant in ["'0'", "'9z'", "'abcdefghij0123456789'", "'me'"]:
            self.assertEqual(Pattern(["a"], [["a", constant]]).blocks(), [["a", constant]])

    def test_places_is_a_tuple(self):
        self.assertEqual(Pattern(TASK, []).places, tuple(TASK))
        self.assertIsInstance(Pattern(TASK, []).places, tuple)
        self.assertEqual(Pattern([], []).places, ())

    def test_the_positions_of_a_schema(self):
        schema = Schema.read("root project owner\ntable task project owner state")
        pattern = Pattern(schema.positions("task"), [["project.owner", "owner"]])
        self.assertEqual(str(pattern), "owner = project.owner; state")

    def test_the_arguments_stay_as_they_were(self):
        places = list(TASK)
        blocks = [["project.owner", "'open'", "state"], ["project.team.owner", "owner"]]
        Pattern(places, blocks)
        self.assertEqual(places, TASK)
        self.assertEqual(blocks, [["project.owner", "'open'", "state"], ["project.team.owner", "owner"]])

    def test_the_arguments_stay_as_they_were_after_an_error(self):
        places, blocks = list(TASK), [["state", "owner"], ["none"]]
        self.check_bad("none", blocks, places)
        self.assertEqual((places, blocks), (TASK, [["state", "owner"], ["none"]]))

    def test_later_changes_of_the_arguments_have_no_effect(self):
        places, block = list(TASK), ["state", "owner", "'x'"]
        blocks = [block]
        pattern = Pattern(places, blocks)
        before = str(pattern)
        places.append("more")
        places[0] = "other"
        block.append("project.owner")
        block[2] = "'y'"
        blocks.append(["project.owner", "project.team.owner"])
        self.assertEqual(str(pattern), before)
        self.assertEqual(pattern.places, tuple(TASK))
        self.assertEqual(pattern, Pattern(TASK, [["state", "owner", "'x'"]]))
        self.assertTrue(("owner", "'x'") in pattern)
        self.assertFalse(("owner", "project.owner") in pattern)

    def test_returned_lists_are_new(self):
        pattern = Pattern(TASK, [["owner", "state", "'x'"]])
        found = pattern.blocks()
        found[0].append("project.owner")
        found[1][0] = "more"
        found.pop()
        self.assertEqual(pattern.blocks(), [["owner", "state", "'x'"], ["project.owner"], ["project.team.owner"]])
        self.assertEqual((len(pattern), str(pattern)), (3, "owner = state = 'x'; project.owner; project.team.owner"))
        self.assertTrue(pattern == Pattern(TASK, [["owner", "state", "'x'"]]))
        self.assertFalse(("owner", "project.owner") in pattern)


class BadPatternTest(PatternTestCase):
    def test_what_is_neither_a_position_nor_a_constant(self):
        for bad in ["", "lead", "team.owner", "project", "owner ", "Owner", "me", "open",
                    "'", "''", "'open", "open'", "'a b'", "'A'",
                    "'a.b'", "'abcdefghij01234567890'", "'\u00e9'", "\"open\""]:
            self.check_bad(bad, [[bad]])
            self.check_bad(bad, [["owner", bad]])
            self.check_bad(bad, [["owner"], ["state", "'x'", bad]])

    def test_a_position_twice(self):
        self.check_bad("owner", [["owner", "owner"]])
        self.check_bad("owner", [["owner"], ["owner"]])
        self.check_bad("state", [["owner", "state"], ["project.owner", "state"]])
        self.check_bad("owner", [["owner", "state"], ["project.owner"], ["'x'", "owner"]])

    def test_a_constant_twice(self):
        self.check_bad("'x'", [["owner", "'x'", "'x'"]])
        self.check_bad("'x'", [["'x'", "owner"], ["state", "'x'"]])
        self.check_bad("'x'", [["'x'", "owner"], ["state"], ["'x'", "project.owner"]])

    def test_a_second_constant_of_a_list(self):
        self.check_bad("'y'", [["owner", "'x'", "'y'"]])
        self.check_bad("'y'", [["'x'", "'y'", "owner"]])
        self.check_bad("'x'", [["'y'", "owner", "'x'", "'z'"]])
        self.check_bad("'z'", [["'x'", "owner"], ["'y'", "state", "'z'"]])

    def test_different_constants_of_different_lists(self):
        pattern = Pattern(TASK, [["owner", "'y'"], ["'x'", "state"]])
        self.assertEqual(pattern.blocks()[:2], [["owner", "'y'"], ["state", "'x'"]])

    def test_a_list_without_a_position(self):
        self.check_bad("", [[]])
        self.check_bad("", [["'x'"]])
        self.check_bad("", [["owner", "state"], []])
        self.check_bad("", [["owner", "state"], ["'x'"]])

    def test_a_list_is_checked_after_its_strings_and_before_the_next_list(self):
        self.check_bad("'y'", [["'x'", "'y'"]])
        self.check_bad("none", [["'x'", "none"]])
        self.check_bad("", [["'x'"], ["none"]])
        self.check_bad("", [[], ["none"]])
        self.check_bad("", [["owner"], ["'x'"], ["owner"]])
        self.check_bad("none", [["none"], []])
        self.check_bad("owner", [["owner"], ["'x'", "owner"], []])

    def test_the_first_wrong_string_in_the_order_of_the_lists(self):
        self.check_bad("none", [["none", "'x'", "'y'"], ["more"]])
        self.check_bad("'y'", [["'x'", "'y'", "none"]])
        self.check_bad("owner", [["owner", "state", "owner", "none"], ["more"]])
        self.check_bad("'x'", [["owner", "'x'"], ["state", "'x'", "'y'"], ["owner"]])
        self.check_bad("'y'", [["owner", "'x'"], ["state", "'z'", "'y'", "'x'"], ["owner"]])

    def test_the_places_decide_what_is_a_position(self):
        self.check_bad("a", [["a"]], [])
        self.check_bad("state", [["owner"], ["state"]], ["owner"])


class JoinedTest(PatternTestCase):
    def setUp(self):
        self.pattern = Pattern(TASK, [["owner", "project.owner", "'x'"], ["state", "'y'"]])

    def test_positions(self):
        for pair, wanted in [
            (("owner", "project.owner"), True), (("project.owner", "owner"), True), (("owner", "owner"), True),
            (("project.team.owner", "project.team.owner"), True), (("owner", "state"), False),
            (("project.team.owner", "owner"), False), (("state", "project.owner"), False),
        ]:
            self.assertIs(pair in self.pattern, wanted, pair)

    def test_positions_and_constants(self):
        for pair, wanted in [
            (("owner", "'x'"), True), (("'x'", "owner"), True), (("'x'", "project.owner"), True),
            (("state", "'y'"), True), (("'y'", "state"), True), (("owner", "'y'"), False), (("'y'", "owner"), False),
            (("state", "'x'"), False), (("project.team.owner", "'x'"), False), (("'x'", "project.team.owner"), False),
            (("owner", "'z'"), False), (("'z'", "owner"), False), (("project.team.owner", "'z'"), False),
        ]:
            self.assertIs(pair in self.pattern, wanted, pair)

    def test_constants(self):
        for pair, wanted in [
            (("'x'", "'x'"), True), (("'z'", "'z'"), True), (("'x'", "'y'"), False), (("'x'", "'z'"), False),
            (("'z'", "'x'"), False), (("'z'", "'w'"), False),
        ]:
            self.assertIs(pair in self.pattern, wanted, pair)

    def test_not_in(self):
        self.assertFalse(("owner", "'x'") not in self.pattern)
        self.assertTrue(("owner", "'z'") not in self.pattern)

    def test_the_first_unknown_member(self):
        for pair, name in [
            (("none", "owner"), "none"), (("owner", "none"), "none"), (("none", "more"), "none"),
            (("more", "none"), "more"), (("none", "none"), "none"), (("'x'", "x"), "x"), (("x", "'x'"), "x"),
            (("", "owner"), ""), (("owner", ""), ""), (("'A'", "none"), "'A'"), (("''", "owner"), "''"),
            (("owner", "'abcdefghij01234567890'"), "'abcdefghij01234567890'"), (("project", "owner"), "project"),
            (("none", "'z'"), "none"), (("'z'", "none"), "none"),
        ]:
            with self.assertRaises(UnknownName) as caught:
                pair in self.pattern
            self.assertEqual((caught.exception.line, caught.exception.name), (0, name), pair)

    def test_the_pattern_stays_as_it_was(self):
        before = str(self.pattern)
        self.assertTrue(("'z'", "'z'") in self.pattern)
        with self.assertRaises(UnknownName):
            ("none", "owner") in self.pattern
        self.assertEqual(str(self.pattern), before)
        with self.assertRaises(UnknownName):
            ("owner", "none") in self.pattern


class CompareTest(PatternTestCase):
    def test_the_same_by_different_lists(self):
        first = Pattern(ABC, [["a", "b", "'x'"], ["c"]])
        for blocks in ([["'x'", "b", "a"]], [["c"], ["b", "'x'", "a"]], [["a", "'x'", "b"]]):
            second = Pattern(ABC, blocks)
            self.assertTrue(first == second)
            self.assertFalse(first != second)
            self.assertTrue(first <= second and second <= first)

    def test_not_equal(self):
        first = Pattern(ABC, [["a", "b"]])
        for other in (Pattern(ABC, []), Pattern(ABC, [["a", "c"]]), Pattern(ABC, [["a", "b", "c"]]),
                      Pattern(ABC, [["a", "b", "'x'"]]), Pattern(ABC, [["a", "b"], ["c", "'x'"]])):
            self.assertFalse(first == other)
            self.assertTrue(first != other)

    def test_not_equal_with_other_constants(self):
        self.assertFalse(Pattern(ABC, [["a", "'x'"]]) == Pattern(ABC, [["a", "'y'"]]))
        self.assertFalse(Pattern(ABC, [["a", "'x'"]]) == Pattern(ABC, [["b", "'x'"]]))

    def test_not_equal_with_other_places(self):
        self.assertFalse(Pattern(ABC, []) == Pattern(["a", "b"], []))
        self.assertFalse(Pattern(ABC, []) == Pattern(["a", "b", "d"], []))
        self.assertFalse(Pattern(["a", "b"], []) == Pattern(["b", "a"], []))
        self.assertFalse(Pattern(["a", "b"], [["a", "b"]]) == Pattern(["b", "a"], [["a", "b"]]))
        # The same blocks in the same order, but c and b stand in another order.
        first, second = Pattern(["a", "b", "c"], [["a", "b"]]), Pattern(["a", "c", "b"], [["a", "b"]])
        self.assertEqual(first.blocks(), second.blocks())
        self.assertFalse(first == second)
        self.assertTrue(first != second)

    def test_not_equal_to_what_is_no_pattern(self):
        pattern = Pattern(ABC, [])
        for other in (None, 3, "a; b; c", ["a", "b", "c"], [["a"], ["b"], ["c"]], (("a",), ("b",), ("c",))):
            self.assertFalse(pattern == other)
            self.assertTrue(pattern != other)
            self.assertFalse(other == pattern)

    def test_finer(self):
        for first, second in [
            ([], []), ([], [["a", "b"]]), ([], [["a", "'x'"]]), ([["a", "b"]], [["a", "b", "c"]]),
            ([["a", "b"]], [["a", "b", "'x'"]]), ([["a", "'x'"]], [["a", "b", "'x'"]]),
            ([["a", "'x'"]], [["a", "'x'"], ["b", "'y'"]]), ([["a", "c"]], [["a", "c"], ["b", "'y'"]]),
        ]:
            self.assertIs(Pattern(ABC, first) <= Pattern(ABC, second), True, (first, second))
            self.assertIs(Pattern(ABC, second) >= Pattern(ABC, first), True, (first, second))

    def test_not_finer(self):
        for first, second in [
            ([["a", "b"]], []), ([["a", "'x'"]], []), ([["a", "b"]], [["a", "c"]]), ([["b", "c"]], [["a", "b"]]),
            ([["a", "'x'"]], [["a", "'y'"]]), ([["a", "'x'"]], [["b", "'x'"]]), ([["a", "b", "c"]], [["a", "b"]]),
            ([["a", "b", "'x'"]], [["a", "b"]]), ([["a", "b"]], [["a", "'x'"], ["b", "'y'"]]),
            ([["a", "b"], ["c", "'x'"]], [["a", "b", "'x'"]]),
        ]:
            self.assertIs(Pattern(ABC, first) <= Pattern(ABC, second), False, (first, second))


class MeetAndJoinTest(PatternTestCase):
    def check_both(self, first, second, meet, join):
        first, second = Pattern(ABC, first), Pattern(ABC, second)
        self.assertEqual((first & second).blocks(), meet)
        self.assertEqual((second & first).blocks(), meet)
        self.assertEqual((first | second).blocks(), join)
        self.assertEqual((second | first).blocks(), join)

    def test_without_constants(self):
        self.check_both([["a", "b"]], [["b", "c"]], [["a"], ["b"], ["c"]], [["a", "b", "c"]])
        self.check_both([["a", "b", "c"]], [["a", "c"]], [["a", "c"], ["b"]], [["a", "b", "c"]])
        self.check_both([], [["a", "c"]], [["a"], ["b"], ["c"]], [["a", "c"], ["b"]])
        self.check_both([], [], [["a"], ["b"], ["c"]], [["a"], ["b"], ["c"]])

    def test_with_constants(self):
        self.check_both([["a", "'x'"]], [["a", "b", "'x'"]], [["a", "'x'"], ["b"], ["c"]], [["a", "b", "'x'"], ["c"]])
        self.check_both([["a", "'x'"]], [["b", "'x'"]], [["a"], ["b"], ["c"]], [["a", "b", "'x'"], ["c"]])
        self.check_both([["a", "'x'"]], [["b", "'y'"]], [["a"], ["b"], ["c"]], [["a", "'x'"], ["b", "'y'"], ["c"]])
        self.check_both([["a", "'x'"], ["b", "c"]], [["a", "b"]], [["a"], ["b"], ["c"]], [["a", "b", "c", "'x'"]])
        self.check_both([["a", "b", "'x'"]], [["a", "b"], ["c", "'x'"]], [["a", "b"], ["c"]], [["a", "b", "c", "'x'"]])

    def test_a_block_joins_several_ones(self):
        places = ["a", "b", "c", "d", "e"]
        first = Pattern(places, [["a", "d"], ["b", "e", "'x'"]])
        second = Pattern(places, [["d", "e"], ["c", "'y'"]])
        self.assertEqual((first | second).blocks(), [["a", "b", "d", "e", "'x'"], ["c", "'y'"]])
        self.assertEqual((second | first).blocks(), [["a", "b", "d", "e", "'x'"], ["c", "'y'"]])

    def test_the_places_are_kept(self):
        first, second = Pattern(["b", "a"], [["a", "'x'"]]), Pattern(["b", "a"], [["a", "b"]])
        self.assertEqual((first & second).places, ("b", "a"))
        self.assertEqual((first | second).places, ("b", "a"))
        self.assertEqual((first | second).blocks(), [["b", "a", "'x'"]])

    def check_meet(self, first, second, constants):
        first, second = Pattern(ABC, first), Pattern(ABC, second)
        before = (str(first), str(second))
        for left, right in ((first, second), (second, first)):
            with self.assertRaises(ConstantsMeet) as caught:
                left | right
            self.assertEqual((caught.exception.first, caught.exception.second), constants)
        self.assertEqual((str(first), str(second)), before)

    def test_constants_meet_in_ascending_order(self):
        self.check_meet([["a", "'x'"]], [["a", "'y'"]], ("'x'", "'y'"))
        self.check_meet([["a", "'y'"]], [["a", "'x'"]], ("'x'", "'y'"))
        self.check_meet([["a", "'b'"], ["b", "'a'"]], [["a", "b"]], ("'a'", "'b'"))
        self.check_meet([["a", "'10'"], ["c", "'9'"]], [["c", "a", "b"]], ("'10'", "'9'"))
        self.check_meet([["a", "b"], ["c", "'y'"]], [["b", "c"], ["a", "'x'"]], ("'x'", "'y'"))

    def test_several_constants_meet(self):
        places = ["a", "b", "c", "d"]
        first = Pattern(places, [["a", "'z'"], ["b", "'y'"], ["c", "'x'"], ["d", "'w'"]])
        for joined, constants in [(["a", "b", "c"], ["'x'", "'y'", "'z'"]), (["d", "b", "a"], ["'w'", "'y'", "'z'"]),
                                  (places, ["'w'", "'x'", "'y'", "'z'"])]:
            with self.assertRaises(ConstantsMeet) as caught:
                first | Pattern(places, [joined])
            pair = (caught.exception.first, caught.exception.second)
            self.assertIn(pair, list(itertools.combinations(constants, 2)))

    def test_the_constants_that_meet_are_of_one_block(self):
        places = ["a", "b", "c", "d"]
        first = Pattern(places, [["a", "'a'"], ["b", "'z'"], ["c", "'b'"], ["d", "'y'"]])
        with self.assertRaises(ConstantsMeet) as caught:
            first | Pattern(places, [["a", "b"], ["c", "d"]])
        self.assertIn((caught.exception.first, caught.exception.second), [("'a'", "'z'"), ("'b'", "'y'")])

    def test_both_patterns_stay_as_they_were(self):
        first, second = Pattern(ABC, [["a", "b"]]), Pattern(ABC, [["b", "c", "'x'"]])
        for answer in (first & second, first | second):
            self.assertIsInstance(answer, Pattern)
            self.assertEqual(first.blocks(), [["a", "b"], ["c"]])
            self.assertEqual(second.blocks(), [["a"], ["b", "c", "'x'"]])
        self.assertFalse(first <= second)
        self.assertEqual((str(first), str(second)), ("a = b; c", "a; b = c = 'x'"))

    def test_other_places(self):
        first = Pattern(ABC, [["a", "b", "'x'"]])
        for places in (["a", "b"], ["a", "b", "c", "d"], ["a", "b", "d"], ["b", "a", "c"], ["a", "c", "b"], []):
            other = Pattern(places, [])
            for left, right in ((first, other), (other, first)):
                for name, operator in [("<=", lambda: left <= right), ("&", lambda: left & right),
                                       ("|", lambda: left | right)]:
                    with self.subTest(places=places, name=name), self.assertRaises(OtherPlaces):
                        operator()

    def test_other_places_come_before_constants_that_meet(self):
        with self.assertRaises(OtherPlaces):
            Pattern(["a", "b"], [["a", "'x'"]]) | Pattern(["b", "a"], [["a", "'y'"]])


class AllPatternsTest(PatternTestCase):
    """Compares each two patterns of three places and two constants with what point 15 says of the joined pairs."""

    MEMBERS = ["a", "b", "c", "'x'", "'y'"]

    def setUp(self):
        self.patterns = [(pattern, joins_of(pattern, self.MEMBERS)) for pattern in all_patterns(ABC, ["'x'", "'y'"])]

    def test_there_are_as_many_as_there_must_be(self):
        # One block can have 3 choices of a constant, two blocks 7, three blocks 13.
        self.assertEqual(len(self.patterns), 1 * 3 + 3 * 7 + 1 * 13)
        self.assertEqual(len({str(pattern) for pattern, _ in self.patterns}), len(self.patterns))

    def test_joined(self):
        for pattern, joined in self.patterns:
            for pair in itertools.product(self.MEMBERS, self.MEMBERS):
                self.assertIs(pair in pattern, pair in joined, (str(pattern), pair))

    def test_compared(self):
        for (first, joined), (second, also) in itertools.product(self.patterns, self.patterns):
            self.assertIs(first <= second, joined <= also, (str(first), str(second)))
            self.assertIs(first == second, joined == also, (str(first), str(second)))

    def test_meet(self):
        for (first, joined), (second, also) in itertools.product(self.patterns, self.patterns):
            self.assertEqual(joins_of(first & second, self.MEMBERS), joined & also, (str(first), str(second)))

    def test_join(self):
        for (first, joined), (second, also) in itertools.product(self.patterns, self.patterns):
            wanted = closed(joined | also)
            if ("'x'", "'y'") in wanted:
                with self.assertRaises(ConstantsMeet) as caught:
                    first | second
                self.assertEqual((caught.exception.first, caught.exception.second), ("'x'", "'y'"))
            else:
                self.assertEqual(joins_of(first | second, self.MEMBERS), wanted, (str(first), str(second)))


if __name__ == "__main__":
    unittest.main()
