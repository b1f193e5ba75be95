"""Programs alike (points 48 and 49)."""

import unittest

from helpers import ROWS_2000, ROWS_2001, Checks, three_inputs
from oracle import all_heaps, chance_of, lively_program, run_model
from thawedwrites.alike import ends_alike
from thawedwrites.heaps import Heap
from thawedwrites.programs import Program

BASE = [("copy", "c", "x", "thaw", 1), ("look", "a", "x", "f"), ("watch", "r", "c", 1),
        ("empty", "a", [("new", "b")], [("put", "a", "f", "c")])]


def program(rows, outputs=("o",), inputs=("x", "y"), fields=("f",)):
    return Program(inputs, fields, rows, outputs=outputs)


def are_alike(one, other, heap):
    """Point 48 for one heap, by way of the oracle's model."""
    (first, end), (second, other_end) = run_model(one, heap), run_model(other, heap)
    if end[0] != other_end[0] or end[0] != "done":
        return end[0] == other_end[0]
    mine = [first.get(name) for name in one.outputs]
    its = [second.get(name) for name in other.outputs]
    for a, b in zip(mine, its):
        if (a is None) != (b is None):
            return False
        if a is not None and "start" in (a.told[0], b.told[0]) and a.told != b.told:
            return False
        if a is not None and a.frozen != b.frozen:
            return False
    return all((mine[j] is mine[k]) == (its[j] is its[k]) for j in range(len(mine)) for k in range(len(mine)))


class AlikeTest(Checks, unittest.TestCase):
    def assert_alike(self, one, other):
        self.assertIs(ends_alike(one, other), None)
        self.assertIs(ends_alike(other, one), None)

    def assert_unlike(self, one, other):
        for first, second in [(one, other), (other, one)]:
            heap = ends_alike(first, second)
            self.assertIs(type(heap), Heap)
            self.assertLessEqual(len(heap), 60)
            self.assertFalse(are_alike(first, second, heap))

    def test_the_example_of_the_interface(self):
        one = Program(["x"], ["f"], [("copy", "y", "x", "thaw", 1)], outputs=["y"])
        other = Program(["x"], ["f"], [("move", "y", "x")], outputs=["y"])
        self.assertEqual([ends_alike(one, one) is None, ends_alike(one, other) is None], [True, False])

    def test_a_program_with_itself(self):
        for outputs in [(), ("a",), ("c", "x"), ("a", "b", "c")]:
            self.assert_alike(program(BASE, outputs), program(BASE, outputs))

    def test_harmless_changes(self):
        outputs = ("a", "b", "c")
        base = program(BASE, outputs)
        self.assert_alike(base, program(BASE + [("move", "b", "b"), ("move", "x", "x")], outputs))
        renamed = [("copy", "k", "x", "thaw", 1), ("look", "l", "x", "f"), ("watch", "r", "k", 1),
                   ("empty", "l", [("new", "m")], [("put", "l", "f", "k")])]
        self.assert_alike(base, program(renamed, ("l", "m", "k")))
        self.assert_alike(base, program(BASE[:2] + BASE[3:], outputs))
        last = BASE[3]
        self.assert_alike(base, program(BASE[:3] + [("empty", "y", [last], [last])], outputs))
        self.assert_alike(base, program([("copy", "x", "x", "freeze", 0)] + BASE + [("copy", "b", "b", "thaw", 0)],
                                        outputs))
        # What is made in another order, or beside it, has other numbers but is alike.
        self.assert_alike(base, program([("new", "b"), ("none", "b")] + BASE, outputs))

    def test_the_words(self):
        hollow = program([("look", "a", "x", "f")])
        refused = program([("copy", "c", "x", "freeze", 1), ("empty", "x", [("look", "a", "x", "f")],
                                                             [("put", "c", "f", "c")])])
        self.assert_unlike(program([]), hollow)
        self.assert_unlike(hollow, refused)
        self.assert_unlike(program([("empty", "x", [], [])]), refused)

    def test_none(self):
        self.assert_unlike(program([]), program([("new", "o")]))
        self.assert_unlike(program([]), program([("move", "o", "x")]))
        self.assert_unlike(program([("look", "o", "x", "f")]), program([("look", "a", "x", "f")]))

    def test_a_start_object(self):
        self.assert_unlike(program([("move", "o", "x")]), program([("copy", "o", "x", "thaw", 1)]))
        self.assert_unlike(program([("empty", "x", [], [("new", "o")])]), program([("empty", "x", [], [("move", "o",
                                                                                                        "x")])]))

    def test_the_same_start_object(self):
        self.assert_unlike(program([("move", "o", "x")]), program([("move", "o", "y")]))
        guarded = ("empty", "x", [], [("empty", "y", [], [("move", "o", "x")])])
        turned = ("empty", "x", [], [("empty", "y", [], [("move", "o", "y")])])
        self.assert_unlike(program([guarded]), program([turned]))
        # Where both hold one object, both programs give it.
        self.assert_alike(program([("same", "x", "y", [guarded], [])]), program([("same", "y", "x", [turned], [])]))

    def test_frozen(self):
        for depth in range(1, 5):
            self.assert_unlike(program([("copy", "o", "x", "thaw", depth)]), program([("copy", "o", "x", "freeze",
                                                                                       depth)]))
        self.assert_alike(program([("copy", "o", "x", "thaw", 0)]), program([("copy", "o", "x", "freeze", 0)]))
        self.assert_alike(program([("copy", "o", "x", "thaw", 1)]), program([("copy", "o", "x", "thaw", 2)]))

    def test_two_outputs_that_are_one_object(self):
        one = program([("new", "o"), ("move", "p", "o")], ("o", "p"))
        other = program([("new", "o"), ("new", "p")], ("o", "p"))
        self.assert_unlike(one, other)
        self.assert_alike(one, program([("new", "a"), ("new", "p"), ("move", "o", "p")], ("o", "p")))
        self.assert_alike(other, program([("new", "p"), ("new", "o")], ("o", "p")))
        three = ("o", "p", "q")
        rows = [("new", "o"), ("new", "p")]
        self.assert_unlike(program(rows + [("move", "q", "o")], three), program(rows + [("move", "q", "p")], three))
        self.assert_alike(program(rows + [("move", "q", "o")], three), program(rows[::-1] + [("move", "q", "o")],
                                                                               three))

    def test_outputs_are_compared_in_order(self):
        rows = [("new", "a"), ("copy", "b", "a", "freeze", 1)]
        self.assert_unlike(program(rows, ("a", "b")), program(rows, ("b", "a")))
        self.assert_alike(program(rows, ("a", "b")), program([("new", "b"), ("copy", "a", "b", "freeze", 1)], ("b",
                                                                                                               "a")))

    def test_other_variables_readers_and_fields_are_not_compared(self):
        self.assert_alike(program([], ("x",)), program([("empty", "x", [], [("put", "x", "f", "y")])], ("x",)))
        self.assert_alike(program([("new", "a")]), program([("watch", "r", "y", 4), ("none", "a")]))

    def test_the_places_of_the_ends_are_not_compared(self):
        self.assert_alike(program([("look", "a", "x", "f")]), program([("new", "b"), ("look", "a", "x", "f")]))
        one = program([("put", "x", "f", "x"), ("put", "y", "f", "x")])
        self.assert_alike(one, program([("put", "y", "f", "x"), ("put", "x", "f", "x")]))

    def test_outputs_are_not_compared_where_the_runs_stop(self):
        one = program([("new", "o"), ("look", "a", "n", "f")])
        self.assert_alike(one, program([("look", "a", "n", "f")]))
        one = program([("new", "o"), ("copy", "o", "o", "freeze", 1), ("put", "o", "f", "o")])
        self.assert_alike(one, program([("new", "a"), ("copy", "a", "a", "freeze", 1), ("put", "a", "f", "a")]))

    def test_programs_that_look_at_unlike_start_values(self):
        one = program([("empty", "x", [], [("look", "o", "x", "f")])], fields=("f", "g"))
        other = program([("empty", "x", [], [("look", "o", "x", "g")])], fields=("f", "g"))
        self.assert_unlike(one, other)
        both = [("empty", "x", [], [("look", "a", "x", "f"), ("look", "b", "x", "g"), ("same", "a", "b", [("move", "o",
                                                                                                           "a")],
                                                                                      [])])]
        turned = [("empty", "x", [], [("look", "b", "x", "g"), ("look", "a", "x", "f"), ("same", "b", "a", [("move",
                                                                                                             "o", "b")],
                                                                                        [])])]
        self.assert_alike(program(both, fields=("f", "g")), program(turned, fields=("f", "g")))

    def test_unlike_inputs_fields_and_numbers_of_outputs(self):
        one = program([], ("o",), ("x", "y"), ("f", "g"))
        for other in [program([], ("o",), ("y", "x"), ("f", "g")), program([], ("o",), ("x",), ("f", "g")),
                      program([], ("o",), ("x", "z"), ("f", "g")), program([], ("o",), ("x", "y"), ("g", "f")),
                      program([], ("o",), ("x", "y"), ("f",)), program([], (), ("x", "y"), ("f", "g")),
                      program([], ("o", "p"), ("x", "y"), ("f", "g"))]:
            self.assert_argument_error("other", ends_alike, one, other)
            self.assert_argument_error("other", ends_alike, other, one)
        # The words of the outputs may be unlike.
        self.assert_alike(one, program([], ("p",), ("x", "y"), ("f", "g")))

    def test_random_programs_on_all_heaps_of_two_objects(self):
        answers = []
        for seed in range(250):
            chance = chance_of(seed)
            rows = lively_program(chance).rows()
            changed = list(rows)
            at = chance.randrange(len(rows))
            changed[at:at + 1] = chance.choice([[], [rows[at], ("move", "m", "m")], [("move", "c", "x")],
                                                [("empty", "y", [rows[at]], [])]])
            outputs = chance.sample(["x", "n", "c", "m"], 2)
            one, other = program(rows, outputs), program(changed, outputs)
            heap = ends_alike(one, other)
            answers.append(heap is None)
            if heap is None:
                for small in all_heaps(["f"], ["x", "y"], 2):
                    self.assertTrue(are_alike(one, other, small), (rows, changed, outputs))
            else:
                self.assertFalse(are_alike(one, other, heap), (rows, changed, outputs))
                self.assertLessEqual(len(heap), 60)
        self.assertGreater(answers.count(True), 40)
        self.assertGreater(answers.count(False), 40)

    def test_2000_and_2001_joint_facts(self):
        for rows, is_beyond in [(ROWS_2000, False), (ROWS_2001, True)]:
            [(word, name, first, second)] = rows
            whole, nothing = three_inputs(rows), three_inputs([])
            # Each of the halves has less stories, but together they have so many joint facts.
            halves = three_inputs([(word, name, first, [])]), three_inputs([(word, name, [], second)])
            for one, other in [(whole, whole), (whole, nothing), (nothing, whole), halves, halves[::-1]]:
                if is_beyond:
                    self.assert_limit(2000, ends_alike, one, other)
                else:
                    self.assertEqual(ends_alike(one, other) is None, one is other)

    def test_errors_about_arguments_come_first(self):
        self.assert_argument_error("other", ends_alike, three_inputs(ROWS_2001), program([]))
        self.assert_argument_error("other", ends_alike, program([]), three_inputs(ROWS_2001))

    def test_nothing_is_changed(self):
        one, other = program(BASE), program(BASE + [("new", "o")])
        before = one.rows(), other.rows()
        ends_alike(one, other)
        self.assertEqual((one.rows(), other.rows()), before)


if __name__ == "__main__":
    unittest.main()
