"""Questions about all heaps (points 40 to 44)."""

import unittest

from helpers import ALL, ROWS_2000, ROWS_2001, Checks, three_inputs
from oracle import chance_of, lively_program, random_rows
from thawedwrites.errors import LimitExceeded
from thawedwrites.facts import Facts
from thawedwrites.heaps import Heap
from thawedwrites.programs import Program
from thawedwrites.reaches import hollows, is_listed, never, refusals, witness
from thawedwrites.runs import Run
from thawedwrites.stories import stories

ALIAS = Program(["x", "y"], ["f"], [("watch", "r", "x", 1), ("put", "y", "f", "x")])
SHARING = Program(["x"], ["f"], [("copy", "c", "x", "freeze", 1), ("watch", "r", "c", 1), ("look", "y", "x", "f"),
                                 ("put", "y", "f", "x")])
# Many ways to end.
ENDS = Program(["x", "y"], ["f"], [
    ("copy", "c", "x", "freeze", 1),
    ("same", "x", "y", [("put", "c", "f", "x"), ("look", "x", "x", "f")],
     [("empty", "y", [("look", "y", "y", "f")], [("look", "d", "y", "f"), ("put", "d", "f", "y")]),
      ("put", "c", "f", "c")]),
    ("put", "x", "f", "y")])
# Rows that look at nothing; ahead of others they reach a reader.
REACHING = [("new", "a"), ("watch", "r", "a", 1), ("put", "a", "f", "a")]
HIDDEN = [("new", "a"), ("watch", "r", "a", 1), ("put", "b", "f", "a")]


class NeverTest(Checks, unittest.TestCase):
    def test_the_example_of_the_interface(self):
        heap = witness(ALIAS, (1,), "r")
        self.assertEqual([never(ALIAS), heap["x"] is None, heap["y"] in heap.parts("x", 1)], [False, False, True])

    def test_never(self):
        self.assertIs(never(SHARING), False)
        self.assertIs(never(SHARING.with_depths([2])), True)
        self.assertIs(never(Program(["x"], ["f"], [])), True)
        self.assertIs(never(Program(["x"], ["f"], [("put", "x", "f", "x"), ("watch", "r", "x", 4)])), True)
        self.assertIs(never(Program(["x"], ["f"], [("watch", "r", "x", 0), ("put", "x", "f", "x")])), False)

    def test_a_pair_that_can_be_and_is_not_sure_is_enough(self):
        rows = [("same", "x", "y", [], [("watch", "r", "x", 1), ("put", "y", "f", "x")])]
        self.assertEqual([story[3] for story in stories(Program(["x", "y"], ["f"], rows)) if story[3]], [])
        self.assertIs(never(Program(["x", "y"], ["f"], rows)), False)

    def test_never_is_so_if_no_story_has_a_pair(self):
        answers = []
        for seed in range(80):
            program = lively_program(chance_of(seed))
            answers.append(never(program))
            self.assertIs(answers[-1], all(story[4] == [] for story in stories(program)))
        self.assertGreater(answers.count(True), 10)
        self.assertGreater(answers.count(False), 10)

    def test_the_limit(self):
        self.assertIs(never(three_inputs(ROWS_2000)), True)
        self.assertIs(never(three_inputs(ROWS_2000, REACHING)), False)
        self.assert_limit(2000, never, three_inputs(ROWS_2001))
        self.assert_limit(2000, never, three_inputs(ROWS_2001, REACHING))


class WitnessTest(Checks, unittest.TestCase):
    def assert_witness(self, program, place, reader):
        heap = witness(program, place, reader)
        self.assertIs(type(heap), Heap)
        self.assertLessEqual(len(heap), 60)
        self.assertIn((place, reader), Run(program, heap).reached())

    def test_a_witness_wherever_some_story_has_the_pair(self):
        found = []
        lists = [ALIAS, SHARING, SHARING.with_depths([2]), ENDS]
        for seed in range(150):
            chance = chance_of(seed)
            lists.append(lively_program(chance, chance.choice([["f"], ["f", "g"]])))
        for program in lists:
            can = {pair for story in stories(program) for pair in story[4]}
            for place in program.writes():
                for reader, _ in program.readers():
                    found.append((place, reader) in can)
                    if found[-1]:
                        self.assert_witness(program, place, reader)
                    else:
                        self.assertIs(witness(program, place, reader), None)
        self.assertGreater(found.count(True), 50)
        self.assertGreater(found.count(False), 50)

    def test_a_witness_with_objects_that_no_run_meets(self):
        # y.f is None, so three objects that are not met have to stand between x and y.
        rows = [("copy", "c", "x", "thaw", 4), ("watch", "r", "c", 4), ("look", "a", "y", "f"),
                ("empty", "a", [("same", "x", "y", [], [("put", "y", "f", "x")])], [])]
        program = Program(["x", "y"], ["f"], rows)
        self.assert_witness(program, (3, 0, 0, 1, 0), "r")
        heap = witness(program, (3, 0, 0, 1, 0), "r")
        self.assertEqual(heap.at("x", ["f"] * 4), heap["y"])
        self.assertEqual(len(set(heap.parts("x", 4))), 5)
        rows[1] = ("watch", "r", "c", 3)
        self.assertIs(witness(Program(["x", "y"], ["f"], rows), (3, 0, 0, 1, 0), "r"), None)

    def test_a_witness_of_many_objects(self):
        looks = [("look", "x", "x", "f")] * 9 + [("look", "y", "x", "g")]
        rows = looks + [("watch", "r", "y", 4), ("put", "x", "f", "x")]
        self.assert_witness(Program(["x"], ["f", "g"], rows), (11,), "r")

    def test_a_put_row_or_a_reader_that_no_run_comes_to(self):
        rows = [("put", "x", "f", "x"), ("same", "x", "x", [("put", "x", "f", "x")], [("watch", "r", "x", 1)]),
                ("put", "x", "f", "x")]
        program = Program(["x"], ["f"], rows)
        for place in [(0,), (1, 0, 0), (2,)]:
            self.assertIs(witness(program, place, "r"), None)

    def test_wrong_places(self):
        rows = [("watch", "r", "x", 1), ("put", "x", "f", "x"), ("empty", "x", [], [("put", "x", "f", "x")])]
        program = Program(["x"], ["f"], rows)
        self.assert_witness(program, (2, 1, 0), "r")
        for place in [(), (0,), (2,), (3,), (-1,), [1], 1, (True,), (1.0,), ((1,),), (1, 0), (2, 0, 0), (2, 1), (2, 1,
                                                                                                                 1),
                      (2, True, 0), (2, 1, False), (2, 1, 0, 0), [2, 1, 0], ("1",), (None,), ([1],)] + ALL:
            self.assert_argument_error("place", witness, program, place, "r")
            # The place comes first.
            self.assert_argument_error("place", witness, program, place, "no")
            self.assert_argument_error("place", witness, program, place, 3)

    def test_wrong_readers(self):
        program = Program(["x"], ["f"], [("watch", "rr", "x", 1), ("put", "x", "f", "x")])
        self.assert_witness(program, (1,), "rr")
        for reader in ["x", "r", "rrr", ["rr"], ("rr",), "RR"] + ALL:
            self.assert_argument_error("reader", witness, program, (1,), reader)

    def test_a_program_without_readers_or_put_rows(self):
        self.assert_argument_error("reader", witness, Program(["x"], ["f"], [("put", "x", "f", "x")]), (0,), "r")
        self.assert_argument_error("place", witness, Program(["x"], ["f"], [("watch", "r", "x", 1)]), (0,), "r")
        self.assert_argument_error("place", witness, Program(["x"], ["f"], []), (0,), "r")

    def test_the_limit(self):
        self.assert_witness(three_inputs(ROWS_2000, REACHING), (2,), "r")
        self.assert_limit(2000, witness, three_inputs(ROWS_2001, REACHING), (2,), "r")
        # Also if there is none.
        hidden = [("empty", "x", [], []), ("same", "x", "x", [], [("watch", "r", "x", 1), ("put", "x", "f", "x")])]
        self.assert_limit(2000, witness, three_inputs(ROWS_2001, hidden), (1, 1, 1), "r")
        # Errors about arguments come first.
        self.assert_argument_error("place", witness, three_inputs(ROWS_2001, REACHING), (1,), "r")
        self.assert_argument_error("reader", witness, three_inputs(ROWS_2001, REACHING), (2,), "s")


class EndsTest(Checks, unittest.TestCase):
    def test_refusals_and_hollows(self):
        self.assertEqual(refusals(ENDS), [(1, 0, 0), (1, 1, 1)])
        self.assertEqual(hollows(ENDS), [(1, 0, 0), (1, 1, 0, 0, 0), (1, 1, 0, 1, 1), (1, 1, 1)])
        self.assertEqual((refusals(SHARING), hollows(SHARING)), ([], [(2,), (3,)]))
        self.assertEqual((refusals(Program(["x"], ["f"], [])), hollows(Program(["x"], ["f"], []))), ([], []))

    def test_each_place_stands_there_once(self):
        rows = [("empty", "x", [("new", "x")], []), ("copy", "c", "x", "freeze", 1), ("empty", "y", [], []),
                ("put", "c", "f", "x")]
        self.assertEqual(refusals(Program(["x", "y"], ["f"], rows)), [(3,)])
        self.assertEqual(hollows(Program(["x", "y"], ["f"], [("put", "n", "f", "x")])), [(0,)])

    def test_all_places_of_the_stories(self):
        for seed in range(60):
            chance = chance_of(seed)
            program = Program(["x", "y"], ["f"], random_rows(chance, ["f"], ["x", "y", "c"], 9))
            for function, told in [(refusals, "refused"), (hollows, "hollow")]:
                places = {place for _, word, place, _, _ in stories(program) if word == told}
                self.assertEqual(function(program), sorted(places))

    def test_lists_are_new(self):
        refusals(ENDS).clear()
        hollows(ENDS).clear()
        self.assertEqual((len(refusals(ENDS)), len(hollows(ENDS))), (2, 4))

    def test_the_limit(self):
        self.assertEqual(hollows(three_inputs(ROWS_2000, HIDDEN)), [(2,)])
        self.assertEqual(refusals(three_inputs(ROWS_2000)), [])
        for function in (refusals, hollows):
            self.assert_limit(2000, function, three_inputs(ROWS_2001))


class ListedTest(Checks, unittest.TestCase):
    def test_the_list_in_any_order(self):
        for program in (ALIAS, SHARING, ENDS, Program(["x"], ["f"], [])):
            told = stories(program)
            self.assertIs(is_listed(program, told), True)
            self.assertIs(is_listed(program, told[::-1]), True)
            self.assertIs(is_listed(program, told[1:] + told[:1]), True)
            # The facts are equal, not the same.
            anew = [(Facts(facts.fields, facts.names(), facts.edges()), *rest) for facts, *rest in told]
            self.assertIs(is_listed(program, anew), True)

    def test_a_list_with_other_items(self):
        for program in (ALIAS, SHARING, ENDS):
            told = stories(program)
            for at in range(len(told)):
                self.assertIs(is_listed(program, told[:at] + told[at + 1:]), False)
                self.assertIs(is_listed(program, told + [told[at]]), False)
                exchanged = told[:at] + [told[at - 1]] + told[at + 1:]
                self.assertIs(is_listed(program, exchanged), False)
                for other in stories(Program(program.inputs, ["h"], program.rows()[:0])) + ALL:
                    self.assertIs(is_listed(program, told[:at] + [other] + told[at + 1:]), False)
            self.assertIs(is_listed(program, told + ["x"]), False)
            self.assertIs(is_listed(program, []), False)

    def assert_not_listed(self, program, at, story):
        told = stories(program)
        self.assertIs(is_listed(program, told[:at] + [story] + told[at + 1:]), False, story)

    def test_each_part_of_a_story_changed(self):
        told = stories(ENDS)
        # The first story of each way to end.
        for at in {story[1]: at for at, story in reversed(list(enumerate(told)))}.values():
            facts, word, place, sure, can = told[at]
            names, edges = facts.names(), facts.edges()
            for other in [Facts(["g"], names, {}), Facts(["f", "g"], names, edges), Facts(["f"], {"x": 0}, {}),
                          Facts(["f"], {"x": 8, "y": 9}, {(8, "f"): 7, (7, "f"): None})] + ALL:
                self.assert_not_listed(ENDS, at, (other, word, place, sure, can))
            for other in ["done", "hollow", "refused", word + "x"] + ALL:
                if other != word:
                    self.assert_not_listed(ENDS, at, (facts, other, place, sure, can))
            for other in [None, (), (0,), (1, 0, 0), list(place or ())] + ALL:
                if other != place:
                    self.assert_not_listed(ENDS, at, (facts, word, other, sure, can))
            for other in [tuple(sure), [((2,), "r")], [((0,), "r")]] + ALL:
                if other != sure:
                    self.assert_not_listed(ENDS, at, (facts, word, place, other, can))
                    self.assert_not_listed(ENDS, at, (facts, word, place, sure, other))
            for other in [(facts, word, place, sure), (facts, word, place, sure, can, can),
                          [facts, word, place, sure, can], (word, facts, place, sure, can), ()]:
                self.assert_not_listed(ENDS, at, other)

    def test_true_and_false_are_no_integers_in_a_place(self):
        at, story = [(at, story) for at, story in enumerate(stories(ENDS)) if story[2] == (1, 0, 0)][0]
        for place in [(True, 0, 0), (1, False, 0), (1, 0, False), (1.0, 0, 0)]:
            self.assertEqual(place, story[2])
            self.assert_not_listed(ENDS, at, story[:2] + (place,) + story[3:])

    def test_the_pairs_of_a_story(self):
        rows = [("watch", "r", "x", 1), ("watch", "s", "x", 2), ("put", "x", "f", "x"), ("put", "x", "f", "x")]
        program = Program(["x"], ["f"], rows)
        told = stories(program)
        pairs = told[1][3]
        self.assertEqual(pairs, [((2,), "r"), ((2,), "s"), ((3,), "r"), ((3,), "s")])
        for other in [pairs[::-1], pairs[1:] + pairs[:1], pairs[1:], pairs + pairs[-1:], tuple(pairs), [],
                      [list(pair) for pair in pairs], [([2], "r")] + pairs[1:], [((2.0,), "r")] + pairs[1:],
                      [("r", (2,))] + pairs[1:], [((2,), "r", "r")] + pairs[1:], [((2,), b"r")] + pairs[1:],
                      [((2,),)] + pairs[1:], [None] + pairs[1:], [((2,), ["r"])] + pairs[1:],
                      {pair: 1 for pair in pairs},
                      [((2, 0), "r")] + pairs[1:]]:
            self.assert_not_listed(program, 1, told[1][:3] + (other, told[1][4]))
            self.assert_not_listed(program, 1, told[1][:4] + (other,))
        rows = [("watch", "r", "x", 1), ("put", "x", "f", "x")]
        program = Program(["x"], ["f"], rows)
        told = stories(program)
        self.assert_not_listed(program, 1, told[1][:3] + ([((True,), "r")], told[1][4]))
        self.assert_not_listed(program, 1, told[1][:4] + ([((True,), "r")],))

    def test_a_list_turned_into_something_else(self):
        told = stories(ALIAS)
        for value in [tuple(told), {at: story for at, story in enumerate(told)}, [told], iter(told), told[0],
                      [None] * 5,
                      ALIAS, Heap(["f"], [], {}), Facts(["f"], {"x": 0}, {})] + ALL:
            self.assertIs(is_listed(ALIAS, value), False)

    def test_nothing_is_changed(self):
        told = stories(ENDS)
        is_listed(ENDS, told)
        self.assertEqual(told, stories(ENDS))

    def test_the_limit(self):
        told = stories(three_inputs(ROWS_2000))
        self.assertIs(is_listed(three_inputs(ROWS_2000), told), True)
        self.assertIs(is_listed(three_inputs(ROWS_2000), told[:-1] + told[:1]), False)
        for value in [told, [], None]:
            self.assert_limit(2000, is_listed, three_inputs(ROWS_2001), value)


class LimitTest(unittest.TestCase):
    def test_there_is_no_other_error(self):
        for function in (never, refusals, hollows, stories):
            with self.assertRaises(LimitExceeded):
                function(three_inputs(ROWS_2001, HIDDEN[:1]))


if __name__ == "__main__":
    unittest.main()
