"""Stories of small programs beside the runs on all small heaps that fit, done by the oracle's model."""

import unittest

from oracle import (all_heaps, chance_of, facts_key, facts_of_run, heap_of, lively_program, reached_pairs,
                    run_model)
from thawedwrites.programs import Program
from thawedwrites.runs import Run
from thawedwrites.stories import stories
from thawedwrites.traces import all_traces

ONE = [
    [("copy", "c", "x", "freeze", 1), ("watch", "r", "c", 1), ("look", "y", "x", "f"), ("put", "y", "f", "x")],
    [("copy", "c", "x", "freeze", 2), ("watch", "r", "c", 2), ("look", "y", "x", "f"), ("put", "y", "f", "x")],
    [("watch", "r", "x", 2), ("look", "y", "x", "f"), ("put", "y", "f", "x"), ("look", "y", "x", "f"),
     ("put", "x", "f", "x")],
    [("copy", "c", "x", "thaw", 2), ("watch", "r", "c", 3), ("put", "x", "f", "c"), ("look", "y", "c", "f"),
     ("put", "y", "f", "x"), ("put", "x", "f", "x")],
    [("new", "n"), ("look", "y", "x", "f"), ("put", "x", "f", "n"), ("copy", "c", "y", "thaw", 2), ("put", "x", "f",
                                                                                                    "m"),
     ("watch", "r", "c", 3), ("put", "n", "f", "n")],
    [("watch", "r", "x", 3), ("empty", "x", [("new", "x")], [("look", "y", "x", "f")]), ("watch", "s", "x", 2),
     ("same", "x", "y", [("put", "y", "f", "y")], [("put", "x", "f", "y")]), ("put", "x", "f", "x")],
    [("copy", "x", "x", "freeze", 1), ("watch", "r", "x", 4), ("look", "y", "x", "f"), ("put", "y", "f", "n"),
     ("put", "x", "f", "y")],
]
TWO = [
    [("watch", "r", "x", 1), ("put", "y", "f", "x")],
    [("watch", "r", "x", 2), ("put", "y", "f", "x"), ("put", "x", "f", "y")],
    [("copy", "c", "x", "thaw", 1), ("watch", "r", "c", 2), ("put", "x", "f", "n"), ("put", "y", "f", "c"),
     ("put", "x", "f", "x")],
    [("copy", "c", "x", "thaw", 2), ("put", "y", "f", "c"), ("watch", "r", "x", 4), ("put", "c", "f", "x")],
    [("same", "x", "y", [("look", "x", "x", "f")], []), ("watch", "r", "x", 2), ("put", "y", "f", "a"),
     ("look", "x", "y", "f"), ("put", "x", "f", "y")],
]
THREE = [
    [("new", "n"), ("put", "z", "f", "n"), ("copy", "c", "x", "thaw", 2), ("put", "z", "f", "m"), ("put", "y", "f",
                                                                                                   "c"),
     ("watch", "r", "x", 4), ("put", "n", "f", "x")],
]


def programs():
    """The programs, each with the number of objects of the heaps."""
    for inputs, lists in [(["x"], ONE), (["y", "x"], TWO), (["x", "y", "z"], THREE)]:
        for rows in lists:
            yield Program(inputs, ["f"], rows), 3
    for rows in ONE:
        yield Program(["x"], ["f", "g"], rows), 2


class AllHeapsTest(unittest.TestCase):
    def check_heaps(self, program, many):
        """Checks the stories beside the runs on all heaps; returns the pairs that can be and were not reached."""
        told = stories(program)
        keys = [facts_key(story[0]) for story in told]
        reached = [set() for _ in told]
        for heap in all_heaps(program.fields, program.inputs, many):
            model, end = run_model(program, heap)
            at = keys.index(facts_of_run(program, heap))
            _, word, place, sure, can = told[at]
            self.assertEqual(end, (word, place))
            pairs = reached_pairs(model)
            self.assertLessEqual(set(sure), set(pairs))
            self.assertLessEqual(set(pairs), set(can))
            reached[at].update(pairs)
        return [(at, pair) for at, story in enumerate(told) for pair in story[4] if pair not in reached[at]]

    def test_each_heap_ends_and_reaches_as_its_story_says(self):
        for program, many in programs():
            self.check_heaps(program, many)

    def test_each_pair_that_can_be_is_reached_on_a_small_heap(self):
        for program, many in programs():
            if len(program.fields) == 1:
                self.assertEqual(self.check_heaps(program, many), [], program.rows())

    def test_each_heap_fits_the_facts_of_one_story(self):
        for program, many in programs():
            told = [story[0] for story in stories(program)]
            for heap in all_heaps(program.fields, program.inputs, many if len(program.inputs) == 1 else 2):
                self.assertEqual([heap in facts for facts in told].count(True), 1)

    def test_random_programs(self):
        for seed in range(40):
            self.check_heaps(lively_program(chance_of(seed)), 2)

    def test_each_pair_that_can_be_is_reached_on_a_heap_that_fits_the_facts(self):
        lists = [program for program, _ in programs()] + [lively_program(chance_of(seed)) for seed in range(100)]
        for program in lists:
            for trace in all_traces(program):
                facts = trace.facts()
                for place, reader in trace.can():
                    heap = trace.witness(place, reader)
                    self.assertIn(heap, facts)
                    self.assertIn((place, reader), reached_pairs(run_model(program, heap)[0]))
                    self.assertIn((place, reader), Run(program, heap).reached())

    def test_larger_heaps(self):
        for seed in range(60):
            chance = chance_of(seed)
            program = lively_program(chance)
            for facts, word, place, sure, can in stories(program):
                names, edges = facts.names(), facts.edges()
                for _ in range(10):
                    many = len(facts) + chance.choice([0, 1, 2, 3])
                    values = [None] + list(range(many)) * 2
                    starts = {(number, "f"): chance.choice(values) for number in range(many)}
                    heap = heap_of(["f"], names, {**starts, **edges}, many)
                    self.assertIn(heap, facts)
                    model, end = run_model(program, heap)
                    self.assertEqual(end, (word, place))
                    self.assertLessEqual(set(sure), set(reached_pairs(model)))
                    self.assertLessEqual(set(reached_pairs(model)), set(can))


if __name__ == "__main__":
    unittest.main()
