import unittest

from helpers import chain, live_of, run_of, two


class ReadersTest(unittest.TestCase):
    def test_each_depth(self):
        for depth in range(5):
            for far in range(7):
                rows = [("watch", "r", "a", depth), ("put", "b", "f", "n")]
                run = run_of(rows, chain(7), {"a": 0, "b": far})
                self.assertEqual(run.reached(), [((1,), "r")] if far <= depth else [], (depth, far))
                self.assertEqual(run.end(), ("done", None))

    def test_the_shortest_way_counts(self):
        objects = two([(1, 3), (2, None), (3, None), (4, None), (None, None)])
        for depth in range(5):
            for at, far in enumerate([0, 1, 2, 1, 2]):
                run = run_of([("watch", "r", "a", depth), ("put", "b", "g", "n")], objects, {"a": 0, "b": at})
                self.assertEqual(run.reached(), [((1,), "r")] if far <= depth else [])

    def test_cycles(self):
        for depth in range(5):
            run = run_of([("watch", "r", "a", depth), ("put", "b", "f", "n")], [{"f": 1}, {"f": 2}, {"f": 0}],
                         {"a": 2, "b": 1})
            self.assertEqual(run.reached(), [((1,), "r")] if depth >= 2 else [])

    def test_fields_lead_one_way_only(self):
        run = run_of([("watch", "r", "b", 4), ("put", "a", "f", "b")], chain(2), {"a": 0, "b": 1})
        self.assertEqual(run.reached(), [])

    def test_a_reader_of_none(self):
        rows = [("watch", "r", "n", 4), ("move", "n", "a"), ("put", "n", "f", "a"), ("put", "a", "f", "n")]
        run = run_of(rows, chain(2), {"a": 0, "n": None})
        self.assertEqual((run.end(), run.reached()), (("done", None), []))

    def test_what_the_variable_holds_later_does_not_matter(self):
        rows = [("watch", "r", "a", 0), ("move", "c", "a"), ("move", "a", "b"), ("put", "a", "f", "n"),
                ("put", "c", "f", "n"), ("none", "a"), ("put", "c", "f", "n")]
        run = run_of(rows, chain(2), {"a": 0, "b": 1})
        self.assertEqual(run.reached(), [((4,), "r"), ((6,), "r")])

    def test_a_put_before_the_watch(self):
        rows = [("put", "a", "f", "a"), ("watch", "r", "a", 0), ("put", "a", "f", "a")]
        self.assertEqual(run_of(rows, chain(1), {"a": 0}).reached(), [((2,), "r")])

    def test_a_watch_row_that_is_not_run_tells_nothing(self):
        rows = [("empty", "a", [("watch", "r", "a", 4)], [("watch", "s", "a", 4)]), ("put", "a", "f", "n")]
        self.assertEqual(run_of(rows, chain(1), {"a": 0}).reached(), [((1,), "s")])

    def test_a_put_of_the_value_that_is_there_already(self):
        rows = [("watch", "r", "a", 1), ("look", "b", "a", "f"), ("put", "a", "f", "b"), ("put", "b", "f", "n")]
        run = run_of(rows, chain(2), {"a": 0})
        self.assertEqual(run.reached(), [((2,), "r"), ((3,), "r")])

    def test_a_put_that_hides_an_object_from_a_reader(self):
        rows = [("look", "b", "a", "f"), ("watch", "r", "a", 3), ("put", "b", "f", "n"), ("put", "a", "f", "n"),
                ("put", "b", "f", "a"), ("put", "a", "f", "n")]
        self.assertEqual(run_of(rows, chain(2), {"a": 0}).reached(), [((2,), "r"), ((3,), "r"), ((5,), "r")])

    def test_a_put_that_shows_an_object_to_a_reader(self):
        rows = [("watch", "r", "a", 1), ("put", "b", "f", "n"), ("put", "a", "f", "b"), ("put", "b", "f", "n")]
        run = run_of(rows, [{"f": None}, {"f": None}], {"a": 0, "b": 1})
        self.assertEqual(run.reached(), [((2,), "r"), ((3,), "r")])

    def test_a_put_that_brings_further_objects_nearer(self):
        rows = [("watch", "r", "a", 2), ("look", "d", "c", "f"), ("put", "d", "f", "n"), ("put", "b", "f", "c"),
                ("put", "d", "f", "n"), ("put", "a", "f", "c"), ("put", "d", "f", "n")]
        run = run_of(rows, [{"f": 1}, {"f": None}, {"f": 3}, {"f": None}], {"a": 0, "b": 1, "c": 2})
        self.assertEqual(run.reached(), [((3,), "r"), ((5,), "r"), ((6,), "r")])

    def test_the_moment_ahead_of_the_change_counts(self):
        rows = [("watch", "r", "a", 1), ("put", "b", "f", "a"), ("put", "a", "f", "b")]
        run = run_of(rows, [{"f": None}, {"f": None}], {"a": 0, "b": 1})
        self.assertEqual(run.reached(), [((2,), "r")])

    def test_several_readers_and_puts_ascending(self):
        rows = [("watch", "t", "a", 0), ("watch", "s", "a", 1), ("watch", "r", "b", 0),
                ("empty", "n", [("put", "b", "f", "n"), ("put", "a", "f", "n")], []), ("put", "a", "f", "b")]
        run = run_of(rows, chain(2), {"a": 0, "b": 1})
        self.assertEqual(run.reached(), [((3, 0, 0), "r"), ((3, 0, 0), "s"), ((3, 0, 1), "s"), ((3, 0, 1), "t"),
                                         ((4,), "s"), ((4,), "t")])

    def test_readers_at_one_object_with_unlike_depths(self):
        for far in range(6):
            live = live_of(chain(6), {"a": 0})
            for depth in range(5):
                live.watch("abcde"[depth], "a", depth=depth)
            live.attempt([("move", "x", "a")] + [("look", "x", "x", "f")] * far + [("put", "x", "f", "x")])
            self.assertEqual(live.reached(), [(0, reader) for reader in "abcde"[far:]])

    def test_a_put_that_ends_the_run_reaches_nothing(self):
        rows = [("copy", "c", "a", "freeze", 1), ("watch", "r", "c", 4), ("put", "c", "f", "a")]
        run = run_of(rows, chain(1), {"a": 0})
        self.assertEqual((run.end(), run.reached()), (("refused", (2,)), []))


class CopiesAndReadersTest(unittest.TestCase):
    def test_a_write_through_a_copy_reaches_a_reader_of_the_origin(self):
        for depth in range(5):
            for far in range(5):
                looks = [("look", "c", "c", "f")] * far
                rows = [("copy", "c", "a", "thaw", depth), ("watch", "r", "a", 4)] + looks + [("put", "c", "f", "n")]
                run = run_of(rows, chain(5), {"a": 0})
                self.assertEqual(run.reached(), [((2 + far,), "r")] if far >= depth else [])

    def test_a_write_through_the_origin_reaches_a_reader_of_the_copy(self):
        for depth in range(5):
            for far in range(5):
                looks = [("look", "a", "a", "f")] * far
                rows = [("copy", "c", "a", "freeze", depth), ("watch", "r", "c", 4)] + looks + [("put", "a", "f", "n")]
                run = run_of(rows, chain(5), {"a": 0})
                self.assertEqual(run.reached(), [((2 + far,), "r")] if far >= depth else [])

    def test_a_put_before_and_after_the_copy(self):
        rows = [("look", "b", "a", "f"), ("put", "a", "f", "n"), ("copy", "c", "a", "thaw", 1), ("watch", "r", "c", 4),
                ("put", "b", "f", "n"), ("put", "a", "f", "n"), ("put", "c", "f", "b"), ("put", "b", "f", "n")]
        self.assertEqual(run_of(rows, chain(3), {"a": 0}).reached(), [((6,), "r"), ((7,), "r")])
        rows = [("copy", "c", "a", "thaw", 1), ("watch", "r", "c", 4), ("look", "b", "a", "f"), ("put", "a", "f", "n"),
                ("put", "b", "f", "n"), ("put", "c", "f", "n"), ("put", "b", "f", "n")]
        self.assertEqual(run_of(rows, chain(3), {"a": 0}).reached(), [((4,), "r"), ((5,), "r")])

    def test_a_copy_of_a_copy(self):
        rows = [("copy", "c", "a", "thaw", 2), ("copy", "d", "c", "thaw", 1), ("watch", "r", "d", 4),
                ("put", "c", "f", "n")]
        self.assertEqual(run_of(rows, chain(3), {"a": 0}).reached(), [])
        rows = [("copy", "c", "a", "thaw", 2), ("copy", "d", "c", "thaw", 1), ("watch", "r", "d", 4),
                ("look", "c", "c", "f"), ("put", "c", "f", "n"), ("look", "a", "a", "f"), ("put", "a", "f", "n")]
        self.assertEqual(run_of(rows, chain(3), {"a": 0}).reached(), [((4,), "r")])

    def test_two_copies_of_a_shared_object_are_seen_apart(self):
        rows = [("copy", "c", "a", "thaw", 2), ("look", "p", "c", "f"), ("look", "q", "c", "g"), ("watch", "r", "p", 0),
                ("put", "q", "f", "n"), ("put", "p", "f", "n")]
        self.assertEqual(run_of(rows, two([(1, 1), (None, None)]), {"a": 0}).reached(), [((5,), "r")])


if __name__ == "__main__":
    unittest.main()
