"""The most objects that a run makes (point 28)."""

import unittest

from helpers import ROWS_2000, ROWS_2001, Checks, three_inputs
from oracle import all_heaps, chance_of, lively_program, run_model
from thawedwrites.heaps import Heap
from thawedwrites.most import most_heap, most_made
from thawedwrites.programs import Program
from thawedwrites.runs import Run, fits


class MostTest(Checks, unittest.TestCase):
    def assert_most(self, most, rows, fields=("f",), inputs=("x",)):
        program = Program(inputs, fields, rows)
        self.assertEqual(most_made(program), most)
        heap = most_heap(program)
        self.assertIs(type(heap), Heap)
        self.assertTrue(fits(program, heap))
        self.assertEqual(Run(program, heap).made(), most)
        self.assertEqual(run_model(program, heap)[0].made, most)

    def test_the_example_of_the_interface(self):
        self.assertEqual(most_made(Program(["a"], ["f", "g"], [("copy", "b", "a", "thaw", 3), ("new", "c")])), 8)

    def test_new_objects(self):
        self.assert_most(0, [])
        self.assert_most(3, [("new", "a")] * 3)
        self.assert_most(0, [("look", "a", "n", "f"), ("new", "a")])
        self.assert_most(1, [("new", "a"), ("put", "n", "f", "a"), ("new", "a")])

    def test_copies_of_what_is_not_known(self):
        for depth in range(5):
            self.assert_most(depth, [("copy", "c", "x", "freeze", depth)])
            self.assert_most(2 ** depth - 1, [("copy", "c", "x", "thaw", depth)], ("f", "g"))

    def test_a_copy_of_none_makes_nothing(self):
        self.assert_most(0, [("copy", "c", "n", "thaw", 4)])
        self.assert_most(1, [("empty", "x", [("copy", "c", "x", "thaw", 4), ("new", "a")], [])])

    def test_copies_of_a_chain(self):
        rows = [("new", "a"), ("new", "b"), ("put", "a", "f", "b"), ("copy", "c", "a", "thaw", 4)]
        self.assert_most(4, rows)
        # The end of the chain holds x, and what x holds is open.
        self.assert_most(6, rows[:3] + [("put", "b", "f", "x")] + rows[3:])
        self.assert_most(5, [("put", "x", "f", "n"), ("new", "a"), ("put", "a", "f", "x"), ("copy", "c", "a", "thaw",
                                                                                            4),
                             ("copy", "c", "a", "thaw", 2)])

    def test_a_copy_of_a_cycle(self):
        self.assert_most(4, [("put", "x", "f", "x"), ("copy", "c", "x", "freeze", 4)])
        rows = [("new", "a"), ("new", "b"), ("put", "a", "f", "b"), ("put", "b", "f", "a")]
        self.assert_most(2 + 3, rows + [("copy", "c", "a", "thaw", 3)])
        self.assert_most(2 + 3, rows + [("copy", "c", "a", "thaw", 3)], ("f", "g"))

    def test_a_copy_of_an_object_both_of_whose_fields_hold_objects(self):
        rows = [("new", "a"), ("new", "b"), ("put", "a", "f", "b"), ("put", "a", "g", "b")]
        self.assert_most(2 + 3, rows + [("copy", "c", "a", "thaw", 4)], ("f", "g"))
        self.assert_most(2 + 5, rows + [("put", "b", "g", "b"), ("copy", "c", "a", "thaw", 3)], ("f", "g"))

    def test_what_is_looked_at_binds(self):
        # What x.f holds is None, or it is not: only then there is more to copy.
        rows = [("look", "a", "x", "f"), ("empty", "a", [("copy", "c", "x", "thaw", 3)], [])]
        self.assert_most(1, rows)
        self.assert_most(4, rows, ("f", "g"))
        self.assert_most(3, [("look", "a", "x", "f"), ("copy", "c", "x", "thaw", 3)])
        self.assert_most(2 + 4, [("look", "a", "x", "f"), ("empty", "a", [("copy", "c", "x", "thaw", 2), ("new", "b")],
                                                          [("copy", "c", "x", "thaw", 4)]),
                                 ("empty", "a", [], [("copy", "c", "a", "thaw", 2)])])
        # x and y are unlike, x.f is told to be y, and y.f to be None.
        rows = [("look", "a", "x", "f"), ("look", "b", "y", "f"),
                ("same", "a", "y", [("empty", "b", [("copy", "c", "x", "thaw", 4)], [])], [])]
        self.assert_most(2, rows, inputs=("x", "y"))

    def test_open_fields_that_an_object_not_told_can_be_in(self):
        # Each start object that is told ends early; only one that is not told goes on.
        rows = [("put", "x", "f", "n"), ("copy", "c", "x", "thaw", 4)]
        self.assert_most(8, rows, ("f", "g"))
        rows = [("put", "x", "f", "n"), ("put", "y", "f", "n"), ("put", "y", "g", "n"), ("copy", "c", "x", "thaw", 4)]
        self.assert_most(8, rows, ("f", "g"), ("x", "y"))

    def test_copies_of_copies(self):
        for first in range(1, 5):
            for second in range(1, 5):
                rows = [("copy", "c", "x", "thaw", first), ("copy", "d", "c", "freeze", second)]
                self.assert_most(first + second, rows)
                self.assert_most(2 ** first + 2 ** second - 2, rows, ("f", "g"))
        self.assert_most(60, [("copy", "c", "x", "thaw", 4)] + [("copy", "c", "c", "thaw", 4)] * 3, ("f", "g"))
        # A copy that holds itself.
        self.assert_most(1 + 4, [("copy", "c", "x", "thaw", 1), ("put", "c", "f", "c"), ("copy", "d", "c", "thaw", 4)])

    def test_a_field_at_the_moment_of_the_copy(self):
        rows = [("copy", "c", "x", "thaw", 2), ("put", "x", "f", "n"), ("copy", "d", "x", "thaw", 4),
                ("copy", "e", "c", "thaw", 4)]
        self.assert_most(2 + 1 + 4, rows)

    def test_rows_in_branches_that_no_heap_takes(self):
        rows = [("same", "x", "x", [], [("new", "a"), ("new", "a")]), ("new", "a")]
        self.assert_most(1, rows)
        self.assert_most(1, [("empty", "n", [("new", "a")], [("copy", "c", "x", "thaw", 4)])])
        rows = [("new", "a"), ("same", "a", "x", [("copy", "c", "x", "thaw", 4)], [])]
        self.assert_most(1, rows)

    def test_refused_and_hollow_runs_count_what_they_made(self):
        self.assert_most(4, [("copy", "c", "x", "freeze", 4), ("put", "c", "f", "c"), ("new", "a")])
        rows = [("empty", "x", [("new", "a"), ("new", "a"), ("new", "a")], [("copy", "c", "x", "freeze", 1)]),
                ("look", "b", "x", "f")]
        self.assert_most(3, rows)

    def test_no_small_heap_makes_more(self):
        found = []
        for seed in range(60):
            program = lively_program(chance_of(seed))
            most = most_made(program)
            self.assertEqual(Run(program, most_heap(program)).made(), most)
            made = [run_model(program, heap)[0].made for heap in all_heaps(["f"], program.inputs, 2)]
            self.assertLessEqual(max(made), most)
            found.append(max(made) == most)
        self.assertGreater(found.count(True), 40)

    def test_the_limit(self):
        ahead = [("copy", "a", "x", "thaw", 4)]
        self.assertEqual(most_made(three_inputs(ROWS_2000, ahead)), 15)
        self.assertEqual(Run(three_inputs(ROWS_2000, ahead), most_heap(three_inputs(ROWS_2000, ahead))).made(), 15)
        for function in (most_made, most_heap):
            self.assert_limit(2000, function, three_inputs(ROWS_2001, ahead))
            self.assert_limit(2000, function, three_inputs(ROWS_2001))


if __name__ == "__main__":
    unittest.main()
