"""Which pairs are sure and which can be in a story (points 36 and 39)."""

import unittest

from helpers import Checks
from thawedwrites.programs import Program
from thawedwrites.reaches import witness
from thawedwrites.runs import Run
from thawedwrites.stories import stories


def pairs_of(inputs, fields, rows, names, edges=None):
    """The sure pairs and those that can be, in the one story of the rows with these facts."""
    found = [story for story in stories(Program(inputs, fields, rows))
             if story[0].names() == names and story[0].edges() == (edges or {})]
    assert len(found) == 1, found
    return found[0][3], found[0][4]


class CanTest(Checks, unittest.TestCase):
    def assert_pairs(self, sure, can, inputs, fields, rows, names, edges=None):
        self.assertEqual(pairs_of(inputs, fields, rows, names, edges), (sure, can), (rows, names, edges))

    def test_a_reader_looks_along_open_fields_as_far_as_its_depth(self):
        for depth in range(5):
            rows = [("watch", "r", "x", depth), ("put", "y", "f", "x")]
            pair = [((1,), "r")]
            self.assert_pairs([], pair if depth else [], ["x", "y"], ["f"], rows, {"x": 0, "y": 1})
            self.assert_pairs(pair, pair, ["x", "y"], ["f"], rows, {"x": 0, "y": 0})
            self.assert_pairs([], [], ["x", "y"], ["f"], rows, {"x": None, "y": 0})

    def test_a_way_of_told_fields_is_sure(self):
        for depth in range(5):
            rows = [("watch", "r", "x", depth), ("look", "y", "x", "g"), ("look", "y", "y", "f"), ("put", "y", "f",
                                                                                                   "x")]
            pair = [((3,), "r")]
            edges = {(0, "g"): 1, (1, "f"): 2}
            can = pair if depth else []
            self.assert_pairs(pair if depth > 1 else [], can, ["x"], ["f", "g"], rows, {"x": 0}, edges)
            # Without the second field nothing else is open within one step.
            rows = [row[:3] + ("f",) if row[0] == "look" else row for row in rows]
            edges = {(0, "f"): 1, (1, "f"): 2}
            can = pair if depth > 1 else []
            self.assert_pairs(can, can, ["x"], ["f"], rows, {"x": 0}, edges)

    def test_a_told_none_ends_a_way(self):
        rows = [("watch", "r", "x", 4), ("put", "y", "f", "y"), ("look", "a", "x", "f")]
        names = {"x": 0, "y": 1}
        pair = [((1,), "r")]
        self.assert_pairs([], [], ["x", "y"], ["f"], rows, names, {(0, "f"): None})
        self.assert_pairs([], [], ["x", "y"], ["f"], rows, names, {(0, "f"): 0})
        self.assert_pairs(pair, pair, ["x", "y"], ["f"], rows, names, {(0, "f"): 1})
        # What x.f holds is met only behind the put, and its field is open.
        self.assert_pairs([], pair, ["x", "y"], ["f"], rows, names, {(0, "f"): 2})

    def test_a_way_through_objects_that_are_met_only_behind_the_put(self):
        rows = [("watch", "r", "x", 2), ("put", "y", "f", "y"), ("look", "a", "x", "f"), ("look", "b", "a", "f")]
        names = {"x": 0, "y": 1}
        pair = [((1,), "r")]
        edges = {(0, "f"): 2}
        self.assert_pairs([], [], ["x", "y"], ["f"], rows, names, {**edges, (2, "f"): None})
        self.assert_pairs([], [], ["x", "y"], ["f"], rows, names, {**edges, (2, "f"): 0})
        self.assert_pairs(pair, pair, ["x", "y"], ["f"], rows, names, {**edges, (2, "f"): 1})
        self.assert_pairs([], [], ["x", "y"], ["f"], rows, names, {**edges, (2, "f"): 2})
        self.assert_pairs([], [], ["x", "y"], ["f"], rows, names, {**edges, (2, "f"): 3})

    def test_an_open_field_leads_to_an_object_that_holds_a_new_one(self):
        # Only z, which is met behind the first put, holds the new object.
        rows = [("new", "n"), ("look", "z", "y", "f"), ("put", "z", "g", "n"), ("watch", "r", "x", 2),
                ("put", "n", "f", "n")]
        names = {"x": 0, "y": 1}
        pair = [((4,), "r")]
        self.assert_pairs([], pair, ["x", "y"], ["f", "g"], rows, names, {(1, "f"): 2})
        # x.g holds it itself.
        self.assert_pairs(pair, pair, ["x", "y"], ["f", "g"], rows, names, {(1, "f"): 0})
        rows[3] = ("watch", "r", "x", 1)
        self.assert_pairs([], [], ["x", "y"], ["f", "g"], rows, names, {(1, "f"): 2})

    def test_a_new_object_that_nothing_holds_cannot_be_reached(self):
        rows = [("new", "n"), ("watch", "r", "x", 4), ("put", "n", "f", "x"), ("put", "x", "f", "n"),
                ("put", "n", "f", "x")]
        pairs = [((3,), "r"), ((4,), "r")]
        self.assert_pairs(pairs, pairs, ["x"], ["f", "g"], rows, {"x": 0})

    def test_copies_of_open_fields(self):
        for kind in ("freeze", "thaw"):
            for depth in range(5):
                for far in range(5):
                    rows = [("copy", "c", "x", kind, depth), ("watch", "r", "c", far), ("put", "y", "f", "x")]
                    # Behind so many fields there is no copy any more but the object itself.
                    can = [((2,), "r")] if far >= max(depth, 1) else []
                    self.assert_pairs([], can, ["x", "y"], ["f"], rows, {"x": 0, "y": 1})
                    self.assert_pairs([], can, ["x", "y"], ["f", "g"], rows, {"x": 0, "y": 1})
                    sure = [((2,), "r")] if depth == 0 else []
                    self.assert_pairs(sure, sure or can, ["x", "y"], ["f"], rows, {"x": 0, "y": 0})

    def test_copies_of_copies_of_open_fields(self):
        for first in range(1, 4):
            for second in range(1, 4):
                for far in range(5):
                    rows = [("copy", "c", "x", "freeze", first), ("copy", "d", "c", "thaw", second),
                            ("watch", "r", "d", far), ("put", "y", "f", "x")]
                    can = [((3,), "r")] if far >= max(first, second) else []
                    self.assert_pairs([], can, ["x", "y"], ["f"], rows, {"x": 0, "y": 1})

    def test_a_copy_of_which_the_first_steps_are_told(self):
        rows = [("copy", "c", "x", "thaw", 3), ("watch", "r", "c", 3), ("look", "a", "x", "f"), ("put", "y", "f", "x"),
                ("look", "b", "c", "f"), ("put", "b", "f", "y")]
        names = {"x": 0, "y": 1}
        pairs = [((5,), "r")]
        # Two steps further there is a copy still, three steps further may be y; the copy of a is told.
        self.assert_pairs(pairs, [((3,), "r")] + pairs, ["x", "y"], ["f"], rows, names, {(0, "f"): 2})
        rows[1] = ("watch", "r", "c", 2)
        self.assert_pairs(pairs, pairs, ["x", "y"], ["f"], rows, names, {(0, "f"): 2})

    def test_a_field_that_holds_something_else_than_at_the_copy(self):
        rows = [("copy", "c", "x", "thaw", 1), ("put", "x", "f", "n"), ("watch", "r", "c", 1), ("watch", "s", "x", 4),
                ("put", "y", "f", "x")]
        self.assert_pairs([], [((4,), "r")], ["x", "y"], ["f"], rows, {"x": 0, "y": 1})
        rows = [("copy", "c", "x", "thaw", 1), ("put", "c", "f", "n"), ("watch", "r", "c", 4), ("watch", "s", "x", 1),
                ("put", "y", "f", "x")]
        self.assert_pairs([], [((4,), "s")], ["x", "y"], ["f"], rows, {"x": 0, "y": 1})

    def test_the_inner_copies_are_those_of_what_the_fields_held_at_the_copy(self):
        # x.g may be y: then c.g is the copy of y, whose f holds the new object that y.f held at the copy.
        rows = [("new", "n"), ("put", "y", "f", "n"), ("copy", "c", "x", "thaw", 2), ("put", "y", "f", "m"),
                ("watch", "r", "c", 2), ("put", "n", "f", "n"), ("watch", "s", "x", 2), ("put", "n", "g", "n")]
        pairs = [((5,), "r"), ((7,), "r")]
        self.assert_pairs([], pairs, ["x", "y"], ["f", "g"], rows, {"x": 0, "y": 1})
        rows[2], rows[3] = rows[3], rows[2]
        self.assert_pairs([], [], ["x", "y"], ["f", "g"], rows, {"x": 0, "y": 1})

    def test_a_new_object_that_was_taken_out_of_a_field_again_after_a_copy(self):
        for depth, far in [(1, 1), (2, 1), (2, 2)]:
            rows = [("new", "n"), ("put", "x", "f", "n"), ("copy", "c", "x", "freeze", depth), ("put", "x", "f", "m"),
                    ("watch", "r", "c", far), ("put", "n", "f", "x")]
            sure = [((5,), "r")] if depth == 1 else []
            # With depth 2, c.g may be the copy of x, whose f holds the new object.
            can = [((5,), "r")] if far == 2 else sure
            self.assert_pairs(sure, can, ["x"], ["f", "g"], rows, {"x": 0})
            self.assert_pairs(sure, sure, ["x"], ["f"], rows, {"x": 0})

    def test_a_start_value_has_one_setting_for_the_whole_way(self):
        # A way has to go by x.f to y, and from there to c; c.f is the copy of what x.f holds, and the copy of z would
        # hold n. So it goes only if y and z are one object.
        rows = [("new", "n"), ("put", "z", "f", "n"), ("copy", "c", "x", "thaw", 2), ("put", "z", "f", "m"),
                ("put", "y", "f", "c"), ("watch", "r", "x", 4), ("put", "n", "f", "x")]
        inputs = ["x", "y", "z"]
        pair = [((6,), "r")]
        self.assert_pairs([], [], inputs, ["f"], rows, {"x": 0, "y": 1, "z": 2})
        self.assert_pairs([], pair, inputs, ["f"], rows, {"x": 0, "y": 1, "z": 1})
        rows[5] = ("watch", "r", "x", 3)
        self.assert_pairs([], [], inputs, ["f"], rows, {"x": 0, "y": 1, "z": 1})

    def test_a_start_value_under_two_copies_has_one_setting(self):
        # c.f and d.f hang on x.f: behind the copy of z comes d, behind that of y comes n.
        rows = [("new", "n"), ("put", "y", "f", "n"), ("copy", "d", "x", "thaw", 2), ("put", "y", "f", "c"),
                ("put", "z", "f", "d"), ("copy", "c", "x", "freeze", 2), ("watch", "r", "c", 4), ("put", "n", "f", "x")]
        inputs = ["x", "y", "z"]
        pair = [((7,), "r")]
        self.assert_pairs([], [], inputs, ["f"], rows, {"x": 0, "y": 1, "z": 2})
        self.assert_pairs([], pair, inputs, ["f"], rows, {"x": 0, "y": 1, "z": 1})

    def test_a_setting_that_is_used_twice_is_taken_twice(self):
        # From x by x.f to z, by z.f to c, by c.f, which hangs on x.f too, to the copy of z, which holds n.
        rows = [("new", "n"), ("put", "z", "g", "n"), ("copy", "c", "x", "thaw", 2), ("put", "z", "g", "m"),
                ("put", "z", "f", "c"), ("watch", "r", "x", 4), ("put", "n", "f", "x")]
        pair = [((6,), "r")]
        self.assert_pairs([], pair, ["x", "z"], ["f", "g"], rows, {"x": 0, "z": 1})
        heap = witness(Program(["x", "z"], ["f", "g"], rows), (6,), "r")
        self.assertIn(((6,), "r"), Run(Program(["x", "z"], ["f", "g"], rows), heap).reached())

    def test_each_reader_and_each_put_row_stands_for_itself(self):
        rows = [("watch", "t", "y", 0), ("put", "x", "f", "y"), ("watch", "r", "x", 1), ("put", "y", "f", "x"),
                ("watch", "s", "x", 0), ("put", "x", "g", "x")]
        # Readers that are told behind a put row are not reached by it.
        sure = [((3,), "r"), ((3,), "t"), ((5,), "r"), ((5,), "s")]
        self.assert_pairs(sure, sure, ["x", "y"], ["f", "g"], rows, {"x": 0, "y": 1})

    def test_put_rows_that_are_not_done_reach_nothing(self):
        rows = [("watch", "r", "x", 4), ("copy", "c", "x", "freeze", 1), ("put", "c", "f", "x"), ("put", "x", "f", "x")]
        self.assert_pairs([], [], ["x"], ["f"], rows, {"x": 0})
        rows = [("watch", "r", "x", 4), ("put", "c", "f", "x"), ("put", "x", "f", "x")]
        self.assert_pairs([], [], ["x"], ["f"], rows, {"x": 0})
        rows = [("watch", "r", "x", 4), ("empty", "x", [("put", "x", "f", "x")], [("put", "x", "f", "c")])]
        self.assert_pairs([((1, 1, 0), "r")], [((1, 1, 0), "r")], ["x"], ["f"], rows, {"x": 0})

    def test_a_reader_that_was_told_none(self):
        rows = [("watch", "r", "n", 4), ("move", "n", "x"), ("put", "x", "f", "x")]
        self.assert_pairs([], [], ["x"], ["f"], rows, {"x": 0})

    def test_a_reader_of_a_copy_is_told_the_copy_for_the_whole_run(self):
        rows = [("copy", "x", "x", "thaw", 1), ("watch", "r", "x", 0), ("copy", "x", "x", "thaw", 1),
                ("put", "x", "f", "x"), ("watch", "s", "x", 0), ("put", "x", "f", "x")]
        self.assert_pairs([((5,), "s")], [((5,), "s")], ["x"], ["f"], rows, {"x": 0})


if __name__ == "__main__":
    unittest.main()
