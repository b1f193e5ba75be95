"""Depths of copies (points 45 to 47)."""

import itertools
import unittest

from helpers import ALL, ROWS_2001, Checks, is_number, three_inputs
from oracle import chance_of, lively_program
from thawedwrites.depths import is_safe, least_depths, needless
from thawedwrites.programs import Program
from thawedwrites.reaches import never

SHARING = Program(["x"], ["f"], [("copy", "c", "x", "freeze", 1), ("watch", "r", "c", 1), ("look", "y", "x", "f"),
                                 ("put", "y", "f", "x")])
# The readers look at two copies, to the depths 1 and 2; y is what x.f.f holds.
PAIR = Program(["x"], ["f"], [
    ("copy", "c", "x", "freeze", 1), ("copy", "d", "x", "thaw", 1), ("watch", "r", "c", 1), ("watch", "s", "d", 2),
    ("look", "y", "x", "f"), ("look", "y", "y", "f"), ("put", "y", "f", "x")])
# A put at c.f is refused as long as the thaw copy shares what is frozen; if it is done, the next put reaches r.
THAWED = Program(["x"], ["f"], [
    ("copy", "b", "x", "freeze", 2), ("copy", "c", "b", "thaw", 1), ("look", "d", "c", "f"), ("put", "d", "f", "d"),
    ("watch", "r", "x", 0), ("put", "x", "f", "x")])
# With a copy of depth 1 or more the put is refused and nothing is looked at.
STOPPING = three_inputs(ROWS_2001, [("new", "a"), ("copy", "a", "a", "freeze", 1), ("put", "a", "f", "a")])
FOUR = [("copy", "c", "x", "thaw", 1)] * 4
# Readers look at all four copies, so deep that each copy that is not so deep shares x.f.f, the object that is written.
DEEP_FOUR = Program(["x"], ["f", "g"], [("copy", name, "x", "thaw", 0) for name in "abcd"] + [
    ("new", "n"), ("put", "n", "f", "a"), ("put", "n", "g", "b"),
    ("watch", "r", "n", 3), ("watch", "s", "c", 2), ("watch", "t", "d", 2),
    ("look", "a", "x", "f"), ("look", "a", "a", "f"), ("put", "a", "f", "x")])


def safe_rows(program, most):
    """The safe rows of depths, by way of never()."""
    rows = itertools.product(range(most + 1), repeat=len(program.copies()))
    return [row for row in rows if never(program.with_depths(row))]


def is_below(one, other):
    return all(a <= b for a, b in zip(one, other))


def least_rows(program, most):
    safe = safe_rows(program, most)
    return [row for row in safe if [other for other in safe if is_below(other, row)] == [row]]


def random_programs(count, most_copies):
    for seed in range(count):
        program = lively_program(chance_of(seed))
        if 1 <= len(program.copies()) <= most_copies:
            yield program


class SafeTest(Checks, unittest.TestCase):
    def test_is_safe(self):
        self.assertEqual([is_safe(SHARING, [depth]) for depth in range(5)], [False, False, True, True, True])
        self.assertIs(is_safe(SHARING, (2,)), True)
        self.assertIs(is_safe(SHARING, (1,)), False)
        self.assertIs(is_safe(Program(["x"], ["f"], []), ()), True)
        self.assertIs(is_safe(Program(["x"], ["f"], [("watch", "r", "x", 0), ("put", "x", "f", "x")]), []), False)
        for depths in itertools.product(range(5), repeat=2):
            self.assertIs(is_safe(PAIR, depths), depths[0] > 1 and depths[1] > 2, depths)

    def test_wrong_rows_of_depths(self):
        for program in (SHARING, STOPPING):
            for depths in [[], [1, 1], [5], [-1], [None], [True], [False], [1.0], ["1"], [[1]], (1, 2), {0}, {1: 1},
                           "1",
                           range(1), iter([1]), b"\x01"] + ALL:
                self.assert_argument_error("depths", is_safe, program, depths)
        for depths in [[1], [1, 2, 3], [1, 5], [5, 1], [1, True]]:
            self.assert_argument_error("depths", is_safe, PAIR, depths)
        self.assert_argument_error("depths", is_safe, Program(["x"], ["f"], []), [0])

    def test_the_limit(self):
        self.assert_limit(2000, is_safe, STOPPING, [0])
        self.assertIs(is_safe(STOPPING, [1]), True)


class LeastTest(Checks, unittest.TestCase):
    def test_the_example_of_the_interface(self):
        self.assertEqual([least_depths(SHARING, most=2), needless(SHARING)], [[(2,)], [(0,)]])

    def test_most(self):
        self.assertEqual([least_depths(SHARING, most=most) for most in range(5)], [[], [], [(2,)], [(2,)], [(2,)]])
        self.assertEqual(least_depths(SHARING), [(2,)])
        self.assertEqual([least_depths(PAIR, most=most) for most in range(5)], [[], [], [], [(2, 3)], [(2, 3)]])
        self.assertEqual(least_depths(PAIR), [])
        deeper = Program(["x"], ["f"], [("copy", "c", "x", "thaw", 0), ("watch", "r", "c", 2), ("look", "y", "x", "f"),
                                        ("look", "y", "y", "f"), ("put", "y", "f", "x")])
        self.assertEqual([least_depths(deeper), least_depths(deeper, most=3)], [[], [(3,)]])

    def test_kinds(self):
        told = least_depths(PAIR, most=3)
        self.assertIs(type(told), list)
        self.assertIs(type(told[0]), tuple)
        self.assertTrue(all(is_number(depth, 0, 3) for depth in told[0]))
        told.append("x")
        self.assertEqual(least_depths(PAIR, most=3), [(2, 3)])

    def test_several_least_rows(self):
        # The put reaches r unless one of the two copies goes deep enough.
        rows = [("copy", "b", "x", "thaw", 0), ("copy", "c", "b", "thaw", 0), ("watch", "r", "c", 1),
                ("look", "y", "x", "f"), ("put", "y", "f", "x")]
        self.assertEqual(least_depths(Program(["x"], ["f"], rows)), [(0, 2), (2, 0)])
        self.assertEqual(least_depths(Program(["x"], ["f"], rows), most=1), [])

    def test_a_row_above_a_safe_row_need_not_be_safe(self):
        self.assertEqual([is_safe(THAWED, depths) for depths in [(2, 1), (2, 2), (2, 0), (1, 1), (3, 1)]],
                         [True, False, True, False, True])
        self.assertEqual(least_depths(THAWED), [(2, 0)])
        self.assertEqual(safe_rows(THAWED, 2), [(2, 0), (2, 1)])

    def test_a_least_row_beside_a_row_that_is_not_safe(self):
        # (0,) is safe, (1,) is not, (2,) is again but is no least row.
        rows = [("copy", "b", "x", "freeze", 1), ("copy", "c", "b", "thaw", 0), ("put", "c", "f", "c"),
                ("watch", "r", "c", 1), ("look", "y", "x", "f"), ("put", "y", "f", "x")]
        program = Program(["x"], ["f"], rows)
        for most in range(4):
            self.assertEqual(least_depths(program, most=most), least_rows(program, most))

    def test_a_program_without_copies(self):
        safe = Program(["x"], ["f"], [("put", "x", "f", "x")])
        for most in range(5):
            self.assertEqual(least_depths(safe, most=most), [()])
        self.assertEqual(least_depths(Program(["x"], ["f"], [("watch", "r", "x", 0), ("put", "x", "f", "x")])), [])

    def test_random_programs(self):
        found = set()
        for program in random_programs(150, 2):
            for most in range(4):
                told = least_depths(program, most=most)
                self.assertEqual(told, least_rows(program, most))
                self.assertEqual(told, sorted(told))
                found.add(len(told))
            self.assertEqual(least_depths(program), least_depths(program, most=2))
        self.assertGreaterEqual(found, {0, 1})

    def test_wrong_values_of_most(self):
        for program in (SHARING, Program(["x"], ["f"], []), Program(["x"], ["f"], FOUR), STOPPING):
            for most in [5, -1, 1.0, "1", [1], True, False] + [value for value in ALL if not is_number(value, 0, 4)]:
                self.assert_argument_error("most", least_depths, program, most=most)

    def test_more_than_400_rows_of_depths(self):
        # Depths do not matter: there is no put at all, or one that reaches r wherever x holds an object.
        for reaching, none in ([], [()]), ([("watch", "r", "x", 0), ("put", "x", "f", "x")], []):
            for most in range(5):
                self.assertEqual(least_depths(Program(["x"], ["f"], reaching), most=most), none)
            for many in range(5):
                program = Program(["x"], ["f"], reaching + FOUR[:many])
                least = [(0,) * many for _ in none]
                for most in range(5):
                    if (most + 1) ** many > 400:
                        self.assertEqual((many, most), (4, 4))
                        self.assert_limit(400, least_depths, program, most=most)
                    else:
                        self.assertEqual(least_depths(program, most=most), least)
        # With four copies there are 256 rows of depths up to 3, the last of which may be the only safe one.
        self.assertEqual(least_depths(DEEP_FOUR, most=3), [(3, 3, 3, 3)])
        self.assertEqual(least_depths(DEEP_FOUR, most=2), [])
        self.assertEqual(least_depths(DEEP_FOUR, most=0), [])
        self.assert_limit(400, least_depths, DEEP_FOUR, most=4)
        # It comes ahead of the limit of the stories.
        many = [("new", "a")] + [("copy", "a", "a", "freeze", 1)] * 4
        self.assert_limit(400, least_depths, three_inputs(ROWS_2001, many), most=4)
        self.assert_limit(2000, least_depths, three_inputs(ROWS_2001, many), most=0)

    def test_the_limit(self):
        for most in range(5):
            self.assert_limit(2000, least_depths, STOPPING, most=most)
        # Whatever the answer would be: with the depth 0 nothing is refused.
        reaching = three_inputs(ROWS_2001, [("new", "a"), ("watch", "r", "a", 0), ("copy", "c", "a", "freeze", 1),
                                            ("put", "c", "f", "a")])
        self.assert_limit(2000, least_depths, reaching)

    def test_only_the_rows_up_to_most_are_gone_through(self):
        # Nothing goes on behind the put unless both copies are made.
        program = three_inputs(ROWS_2001, [
            ("new", "a"), ("copy", "b", "a", "freeze", 1), ("same", "a", "b", [("put", "c", "f", "a")], []),
            ("copy", "a", "b", "thaw", 1), ("put", "a", "f", "a")])
        self.assert_limit(2000, never, program)
        self.assertEqual(least_depths(program, most=0), [(0, 0)])
        self.assert_limit(2000, least_depths, program, most=1)
        self.assertEqual([is_safe(program, depths) for depths in [(0, 0), (0, 1), (1, 0), [4, 0]]], [True] * 4)
        self.assert_limit(2000, is_safe, program, (1, 1))
        self.assert_limit(2000, needless, program)
        self.assertEqual(needless(program.with_depths([1, 0])), [(1,), (3,)])


class NeedlessTest(Checks, unittest.TestCase):
    def test_no_copy(self):
        self.assertEqual(needless(Program(["x"], ["f"], [("put", "x", "f", "x")])), [])
        self.assertEqual(needless(Program(["x"], ["f"], [("watch", "r", "x", 0), ("put", "x", "f", "x")])), [])

    def test_one_copy(self):
        self.assertEqual(needless(SHARING.with_depths([2])), [])
        self.assertEqual(needless(SHARING.with_depths([1])), [(0,)])
        self.assertEqual(needless(SHARING.with_depths([0])), [(0,)])
        self.assertEqual(needless(Program(["x"], ["f"], [("empty", "x", [], [("copy", "c", "x", "thaw", 3)])])),
                         [(0, 1, 0)])

    def test_several_copies(self):
        # One of the two is enough, so each is needless, but not both together.
        rows = [("copy", "b", "x", "thaw", 2), ("copy", "c", "b", "thaw", 2), ("watch", "r", "c", 1),
                ("look", "y", "x", "f"), ("put", "y", "f", "x"), ("copy", "d", "y", "freeze", 1)]
        program = Program(["x"], ["f"], rows)
        self.assertEqual(needless(program), [(0,), (1,), (5,)])
        self.assertIs(is_safe(program, [0, 0, 1]), False)
        self.assertEqual(needless(program.with_depths([2, 1, 1])), [(1,), (5,)])
        self.assertEqual(needless(program.with_depths([0, 2, 0])), [(0,), (5,)])
        self.assertEqual(needless(PAIR.with_depths([2, 3])), [])
        self.assertEqual(needless(PAIR.with_depths([2, 2])), [(0,), (1,)])

    def test_a_copy_without_which_never_holds(self):
        # With the thaw copy of depth 2 a put is done that is refused without it.
        self.assertEqual(needless(THAWED.with_depths([2, 2])), [(0,)])
        self.assertEqual(needless(THAWED.with_depths([2, 1])), [(1,)])

    def test_random_programs(self):
        counts = []
        for program in random_programs(150, 4):
            places = program.copies()
            depths = [program.row(place)[4] for place in places]
            plain = []
            for at, place in enumerate(places):
                other = program.with_depths([0 if k == at else depth for k, depth in enumerate(depths)])
                if never(other) == never(program):
                    plain.append(place)
            self.assertEqual(needless(program), plain)
            counts.append(len(places) - len(plain))
        self.assertGreater(len(set(counts)), 1)

    def test_lists_are_new(self):
        needless(SHARING).clear()
        self.assertEqual(needless(SHARING), [(0,)])

    def test_the_limit(self):
        self.assert_limit(2000, needless, three_inputs(ROWS_2001))
        self.assertIs(never(STOPPING), True)
        self.assert_limit(2000, needless, STOPPING)
        self.assert_limit(2000, needless, STOPPING.with_depths([0]))


if __name__ == "__main__":
    unittest.main()
