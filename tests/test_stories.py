"""Stories: what they tell, their order, and the story of one heap (points 35 to 38)."""

import unittest

from helpers import ALL, three_inputs, ROWS_2000, ROWS_2001, Checks, chain, two
from oracle import (all_heaps, chance_of, facts_key, facts_of_run, normal_facts, plain_choices, random_rows,
                    run_model)
from thawedwrites.errors import LimitExceeded
from thawedwrites.facts import Facts
from thawedwrites.heaps import Heap
from thawedwrites.programs import Program
from thawedwrites.runs import Run
from thawedwrites.stories import stories, story_of

SHARING = [("copy", "c", "x", "freeze", 1), ("watch", "r", "c", 1), ("look", "y", "x", "f"), ("put", "y", "f", "x")]
PROGRAMS = [
    Program(["x"], ["f"], []),
    Program(["x"], ["f"], SHARING),
    Program(["x"], ["f"], [("look", "x", "x", "f")] * 4),
    Program(["y", "x"], ["f"], [("look", "a", "x", "f"), ("look", "b", "y", "f")]),
    Program(["z", "y", "x"], ["g", "f"], [("look", "a", "y", "g"), ("look", "b", "y", "f")]),
    Program(["b", "c", "a"], ["f"], [("look", "c", "c", "f"), ("look", "c", "c", "f")]),
    Program(["x", "y"], ["g", "f"], [("look", "a", "y", "f"), ("look", "a", "x", "f"), ("look", "b", "y", "g")]),
    # Looks into copies, at fields that were written, and at fields of new objects.
    Program(["x"], ["f", "g"], [("copy", "c", "x", "thaw", 2), ("look", "c", "c", "f"), ("look", "d", "c", "g")]),
    Program(["x"], ["f"], [("copy", "c", "x", "thaw", 1), ("put", "c", "f", "c"), ("look", "d", "c", "f"),
                           ("new", "n"), ("look", "d", "n", "f"), ("look", "d", "x", "f")]),
    Program(["x", "y"], ["f"], [("same", "x", "y", [("look", "a", "x", "f")],
                                 [("empty", "y", [], [("look", "a", "y", "f"), ("look", "a", "x", "f")])])]),
]


def names_and_edges(program):
    return [(story[0].names(), story[0].edges()) for story in stories(program)]


class StoriesTest(Checks, unittest.TestCase):
    def test_the_first_example_of_the_interface(self):
        self.assertEqual([story[1:] for story in stories(Program(["x"], ["f"], SHARING))], [
            ("hollow", (2,), [], []),
            ("hollow", (3,), [], []),
            ("done", None, [((3,), "r")], [((3,), "r")]),
            ("done", None, [((3,), "r")], [((3,), "r")])])

    def test_the_second_example_of_the_interface(self):
        self.assertEqual([story[0].edges() for story in stories(Program(["x"], ["f"], SHARING))],
                         [{}, {(0, "f"): None}, {(0, "f"): 0}, {(0, "f"): 1}])

    def test_the_example_of_the_search(self):
        program = Program(["x", "y"], ["f"], [("watch", "r", "x", 1), ("put", "y", "f", "x")])
        pair = ((1,), "r")
        self.assertEqual([(story[0].names(),) + story[1:] for story in stories(program)], [
            ({"x": None, "y": None}, "hollow", (1,), [], []),
            ({"x": None, "y": 0}, "done", None, [], []),
            ({"x": 0, "y": None}, "hollow", (1,), [], []),
            ({"x": 0, "y": 0}, "done", None, [pair], [pair]),
            ({"x": 0, "y": 1}, "done", None, [], [pair])])

    def test_the_parts_have_their_kinds(self):
        for program in PROGRAMS:
            told = stories(program)
            self.assertIs(type(told), list)
            for story in told:
                self.assertIs(type(story), tuple)
                facts, word, place, sure, can = story
                self.assertIs(type(facts), Facts)
                self.assertIn(word, ("done", "hollow", "refused"))
                self.assertEqual(place is None, word == "done")
                self.assertIn(place, [None] + program.places())
                for pairs in (sure, can):
                    self.assertIs(type(pairs), list)
                    self.assertEqual(pairs, sorted(set(pairs)))
                    for place, reader in pairs:
                        self.assertIn(place, program.writes())
                        self.assertIn(reader, dict(program.readers()))
                self.assertLessEqual(set(sure), set(can))

    def test_without_rows_there_is_one_story_for_what_the_inputs_hold(self):
        self.assertEqual(names_and_edges(Program(["a"], ["f"], [])), [({"a": None}, {}), ({"a": 0}, {})])
        self.assertEqual(names_and_edges(Program(["a", "b", "c"], ["f"], [])), [
            ({"a": a, "b": b, "c": c}, {}) for a, b, c in [
                (None, None, None), (None, None, 0), (None, 0, None), (None, 0, 0), (None, 0, 1),
                (0, None, None), (0, None, 0), (0, None, 1), (0, 0, None), (0, 0, 0), (0, 0, 1),
                (0, 1, None), (0, 1, 0), (0, 1, 1), (0, 1, 2)]])

    def test_the_inputs_are_chosen_in_the_order_of_the_program(self):
        self.assertEqual(names_and_edges(Program(["y", "x"], ["f"], [])), [
            ({"x": None, "y": None}, {}), ({"x": 0, "y": None}, {}),
            ({"x": None, "y": 0}, {}), ({"x": 0, "y": 0}, {}), ({"x": 0, "y": 1}, {})])

    def test_objects_are_chosen_in_the_order_of_the_meeting_and_not_of_the_labels(self):
        told = names_and_edges(Program(["y", "x"], ["f"], [("look", "a", "x", "f")]))
        self.assertEqual([edges for names, edges in told if names == {"x": 0, "y": 1}],
                         [{(0, "f"): None}, {(0, "f"): 1}, {(0, "f"): 0}, {(0, "f"): 2}])

    def test_start_values_are_chosen_in_the_order_of_the_first_looks(self):
        program = Program(["x"], ["f", "g"], [("look", "a", "x", "g"), ("look", "b", "x", "f")])
        self.assertEqual([edges for names, edges in names_and_edges(program)], [
            {}] + [{(0, "f"): f, (0, "g"): g} for g, f in [
                (None, None), (None, 0), (None, 1), (0, None), (0, 0), (0, 1),
                # What g holds is met ahead of what f holds, but f comes first in the normal form.
                (1, None), (1, 0), (1, 1), (2, 1)]])

    def test_all_stories_in_their_order(self):
        for program in PROGRAMS:
            plain = [normal_facts(program.fields, names, starts) for names, starts in plain_choices(program)]
            self.assertEqual([facts_key(story[0]) for story in stories(program)], plain)

    def test_all_stories_of_random_programs_in_their_order(self):
        for seed in range(60):
            chance = chance_of(seed)
            fields = chance.choice([["f"], ["f", "g"], ["g", "f"]])
            inputs = chance.choice([["x"], ["b", "a"], ["z", "x", "y"]])
            program = Program(inputs, fields, random_rows(chance, fields, inputs + ["d", "c"], 9))
            told = self.stories_or_none(program)
            if told is not None:
                plain = [normal_facts(fields, names, starts) for names, starts in plain_choices(program)]
                self.assertEqual([facts_key(story[0]) for story in told], plain)

    def stories_or_none(self, program):
        try:
            return stories(program)
        except LimitExceeded:
            return None

    def test_facts_tell_what_the_run_looks_at_and_nothing_else(self):
        for program in PROGRAMS:
            for facts, word, place, _, _ in stories(program):
                heap = facts.heap()
                self.assertEqual(facts_key(facts), facts_of_run(program, heap))
                self.assertEqual(sorted(facts.edges()), sorted(Run(program, heap).looks()))
                self.assertEqual((facts.fields, sorted(facts.names())), (program.fields, sorted(program.inputs)))
                self.assertEqual(run_model(program, heap)[1], (word, place))

    def test_what_no_look_reads_is_not_told(self):
        rows = [("copy", "c", "x", "freeze", 4), ("watch", "r", "c", 4), ("put", "x", "f", "c"), ("new", "n"),
                ("same", "x", "c", [("look", "n", "x", "f")], []), ("look", "n", "n", "f"), ("look", "d", "x", "f")]
        self.assertEqual(names_and_edges(Program(["x"], ["f", "g"], rows)), [({"x": None}, {}), ({"x": 0}, {})])

    def test_a_look_into_a_copy_of_a_copy_tells_the_one_start_value(self):
        rows = [("copy", "c", "x", "freeze", 2), ("put", "x", "f", "x"), ("copy", "d", "c", "thaw", 3),
                ("look", "d", "d", "f"), ("look", "d", "d", "f")]
        told = [edges for names, edges in names_and_edges(Program(["x"], ["f"], rows)) if edges]
        self.assertEqual(told, [{(0, "f"): None}, {(0, "f"): 0}, {(0, "f"): 1, (1, "f"): None},
                                {(0, "f"): 1, (1, "f"): 0}, {(0, "f"): 1, (1, "f"): 1}, {(0, "f"): 1, (1, "f"): 2}])

    def test_no_two_stories_have_equal_facts(self):
        for program in PROGRAMS:
            told = [story[0] for story in stories(program)]
            for at, facts in enumerate(told):
                self.assertEqual([other == facts for other in told], [k == at for k in range(len(told))])

    def test_what_is_returned_is_new(self):
        program = Program(["x"], ["f"], SHARING)
        before = program.rows()
        first = stories(program)
        for story in first:
            story[3].append("x")
            story[4].clear()
        del first[1:]
        self.assertEqual([len(story[4]) for story in stories(program)], [0, 0, 1, 1])
        self.assertEqual([len(story[3]) for story in stories(program)], [0, 0, 1, 1])
        self.assertEqual(program.rows(), before)
        heap = Heap(["f"], chain(3), {"x": 0})
        story_of(program, heap)[4].append("x")
        self.assertEqual(story_of(program, heap)[4], [((3,), "r")])
        self.assertEqual((heap.objects(), heap.names()), (chain(3), {"x": 0}))

    def test_2000_and_2001_stories(self):
        self.assertEqual(len(stories(three_inputs(ROWS_2000))), 2000)
        self.assertEqual(sum(1 for _ in plain_choices(three_inputs(ROWS_2000))), 2000)
        self.assertEqual(sum(1 for _ in plain_choices(three_inputs(ROWS_2001))), 2001)
        self.assert_limit(2000, stories, three_inputs(ROWS_2001))
        self.assert_limit(2000, stories, Program(["x", "y", "z"], ["f", "g"], [
            ("look", a, b, f) for a in "xyz" for b in "xyz" for f in "fg"]))


class StoryOfTest(Checks, unittest.TestCase):
    def test_each_small_heap_has_its_story_in_the_list(self):
        for program in PROGRAMS:
            told = stories(program)
            most = 2 if len(program.inputs) * len(program.fields) < 4 else 1
            for heap in all_heaps(program.fields, program.inputs, most):
                story = story_of(program, heap)
                self.assertIn(story, told)
                self.assertEqual(facts_key(story[0]), facts_of_run(program, heap))
                self.assertTrue(heap in story[0])

    def test_objects_that_are_not_looked_at_do_not_matter(self):
        program = Program(["x"], ["f", "g"], [("look", "y", "x", "g"), ("watch", "r", "x", 4), ("put", "y", "f", "x")])
        heap = Heap(["f", "g"], two([(0, 2), (1, 1), (2, 0), (3, 3)]), {"x": 2})
        facts, *rest = story_of(program, heap)
        self.assertEqual((facts.names(), facts.edges()), ({"x": 0}, {(0, "g"): 1}))
        self.assertEqual(rest, ["done", None, [((2,), "r")], [((2,), "r")]])

    def test_100_and_101_objects(self):
        program = Program(["x"], ["f"], [("look", "y", "x", "f"), ("look", "y", "y", "f")])
        facts, *rest = story_of(program, Heap(["f"], chain(100), {"x": 97}))
        self.assertEqual((facts.edges(), rest), ({(0, "f"): 1, (1, "f"): 2}, ["done", None, [], []]))
        self.assertEqual(story_of(program, Heap(["f"], chain(100), {"x": 98}))[0].edges(),
                         {(0, "f"): 1, (1, "f"): None})
        self.assert_argument_error("heap", story_of, program, Heap(["f"], chain(101), {"x": 97}))

    def test_heaps_that_do_not_fit(self):
        program = Program(["x", "y"], ["f", "g"], [])
        objects = two([(None, 0)])
        self.assertEqual(story_of(program, Heap(["f", "g"], objects, {"y": 0, "x": None}))[1:], ("done", None, [], []))
        for fields, cells, names in [
                (["g", "f"], objects, {"x": 0, "y": 0}),
                (["f"], chain(1), {"x": 0, "y": 0}),
                (["f", "h"], [{"f": 0, "h": 0}], {"x": 0, "y": 0}),
                (["f", "g"], objects, {"x": 0}),
                (["f", "g"], objects, {}),
                (["f", "g"], objects, {"x": 0, "z": 0}),
                (["f", "g"], objects, {"x": 0, "y": 0, "z": None})]:
            self.assert_argument_error("heap", story_of, program, Heap(fields, cells, names))

    def test_values_that_are_no_heaps(self):
        for value in ALL:
            self.assert_argument_error("heap", story_of, Program(["x"], ["f"], []), value)
        facts = Facts(["f"], {"x": 0}, {})
        self.assert_argument_error("heap", story_of, Program(["x"], ["f"], []), facts)

    def test_a_program_with_more_than_2000_stories(self):
        program = three_inputs(ROWS_2001)
        objects = two([(1, 0), (None, 2), (2, 1)])
        facts, *rest = story_of(program, Heap(["f", "g"], objects, {"x": 0, "y": 1, "z": 2}))
        self.assertEqual((facts.names(), rest), ({"x": 0, "y": 1, "z": 2}, ["done", None, [], []]))
        self.assertEqual(facts.edges(), {(0, "g"): 0, (0, "f"): 1, (2, "f"): 2, (2, "g"): 1})


if __name__ == "__main__":
    unittest.main()
