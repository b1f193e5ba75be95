import unittest

from helpers import chain, run_of, two
from thawedwrites.heaps import Heap
from thawedwrites.live import Live


def value_behind(live, name, path):
    """What stands behind the path from what the variable holds; the live stays as it is."""
    rows = [("move", "zz", name)] + [("look", "zz", "zz", field) for field in path]
    live.attempt(rows)
    return live.value("zz")


def copied(objects, names, depth, kind="thaw"):
    """A live in which c holds a copy of what a holds."""
    live = Live(Heap(list(objects[0]), objects, names))
    live.do(("copy", "c", "a", kind, depth))
    return live


class CopyTest(unittest.TestCase):
    def test_depth_0_gives_the_object_itself(self):
        for kind in ("freeze", "thaw"):
            run = run_of([("copy", "c", "a", kind, 0), ("put", "c", "f", "c")], chain(2), {"a": 0})
            self.assertEqual((run.end(), run.made(), run.value("c")), (("done", None), 0, ("start", 0)))
            self.assertEqual(run.behind().objects(), [{"f": 0}])

    def test_a_copy_of_none(self):
        for depth in range(5):
            run = run_of([("new", "c"), ("copy", "c", "n", "freeze", depth)], chain(2), {"a": 0, "n": None})
            self.assertEqual((run.made(), run.value("c")), (1, ("none",)))

    def test_how_many_of_a_chain_are_copied(self):
        for kind, frozen in [("freeze", True), ("thaw", False)]:
            for depth in range(1, 5):
                live = copied(chain(6), {"a": 0}, depth, kind)
                self.assertEqual(live.made(), depth)
                for far in range(6):
                    told = ("own", far, frozen) if far < depth else ("start", far)
                    self.assertEqual(value_behind(live, "c", ["f"] * far), told)
                self.assertEqual(value_behind(live, "c", ["f"] * 6), ("none",))
                self.assertEqual(value_behind(live, "a", ["f"]), ("start", 1))

    def test_a_chain_that_is_shorter_than_the_depth(self):
        live = copied(chain(2), {"a": 0}, 4)
        self.assertEqual((live.made(), value_behind(live, "c", "ff")), (2, ("none",)))

    def test_the_numbers_of_the_copies(self):
        objects = two([(1, 2), (3, 4), (5, 6)] + [(None, None)] * 4)
        paths = ["", "f", "g", "ff", "fg", "gf", "gg"]
        live = copied(objects, {"a": 0}, 3)
        self.assertEqual([value_behind(live, "c", path) for path in paths], [("own", k, False) for k in range(7)])
        self.assertEqual(live.made(), 7)
        live = copied(objects, {"a": 0}, 2)
        self.assertEqual([value_behind(live, "c", path) for path in paths[:3]], [("own", k, False) for k in range(3)])
        self.assertEqual([value_behind(live, "c", path) for path in paths[3:]], [("start", k) for k in range(3, 7)])

    def test_the_numbers_follow_the_order_of_the_fields(self):
        live = Live(Heap(["g", "f"], two([(1, 2), (None, 2), (None, None)]), {"a": 0}))
        live.do(("copy", "c", "a", "thaw", 3))
        self.assertEqual([value_behind(live, "c", path) for path in ["", "g", "f", "fg"]],
                         [("own", k, False) for k in range(4)])

    def test_ways_that_end_early_take_no_number(self):
        live = copied(two([(None, 1), (2, None), (0, 1)]), {"a": 0}, 4)
        self.assertEqual([value_behind(live, "c", path) for path in ["", "g", "gf", "gff", "gfg"]],
                         [("own", k, False) for k in range(5)])
        self.assertEqual(live.made(), 5)
        self.assertEqual(value_behind(live, "c", "f"), ("none",))
        self.assertEqual(value_behind(live, "c", "gffg"), ("start", 1))

    def test_a_cycle_is_unrolled(self):
        for depth in range(1, 5):
            live = copied([{"f": 1}, {"f": 0}], {"a": 0}, depth)
            self.assertEqual(live.made(), depth)
            self.assertEqual([value_behind(live, "c", "f" * far) for far in range(depth)],
                             [("own", far, False) for far in range(depth)])
            self.assertEqual(value_behind(live, "c", "f" * depth), ("start", depth % 2))

    def test_an_object_that_holds_itself(self):
        live = copied(two([(0, 0)]), {"a": 0}, 4)
        self.assertEqual(live.made(), 15)
        self.assertEqual([value_behind(live, "c", path) for path in ["", "f", "g", "gg", "fff", "ggg", "gggg"]],
                         [("own", k, False) for k in [0, 1, 2, 6, 7, 14]] + [("start", 0)])
        live = copied([{"f": 0}], {"a": 0}, 1)
        self.assertEqual((value_behind(live, "c", ""), value_behind(live, "c", "f")), (("own", 0, False), ("start", 0)))

    def test_an_object_reached_along_two_ways_is_copied_twice(self):
        live = copied(two([(1, 1), (2, None), (None, None)]), {"a": 0}, 2)
        self.assertEqual(live.made(), 3)
        self.assertEqual([value_behind(live, "c", path) for path in ["f", "g", "ff", "gf"]],
                         [("own", 1, False), ("own", 2, False), ("start", 2), ("start", 2)])
        live.do(("look", "p", "c", "f"))
        live.do(("put", "p", "f", "c"))
        self.assertEqual(value_behind(live, "c", "gf"), ("start", 2))

    def test_ways_of_unlike_length_to_one_object(self):
        live = copied(two([(1, 2), (2, None), (None, None)]), {"a": 0}, 3)
        self.assertEqual([value_behind(live, "c", path) for path in ["f", "g", "ff"]],
                         [("own", 1, False), ("own", 2, False), ("own", 3, False)])

    def test_what_lies_deeper_is_shared(self):
        live = copied(chain(3), {"a": 0}, 1)
        live.attempt([("look", "p", "c", "f"), ("new", "q"), ("put", "p", "f", "q")])
        self.assertEqual(value_behind(live, "a", "ff"), ("own", 1, False))

    def test_a_put_through_the_origin_and_through_the_copy(self):
        rows = [("copy", "c", "a", "thaw", 1), ("put", "a", "f", "n"), ("look", "u", "c", "f"), ("look", "v", "a", "f")]
        run = run_of(rows, chain(2), {"a": 0})
        self.assertEqual((run.value("u"), run.value("v")), (("start", 1), ("none",)))
        rows = [("copy", "c", "a", "thaw", 1), ("put", "c", "f", "n"), ("look", "u", "c", "f"), ("look", "v", "a", "f")]
        run = run_of(rows, chain(2), {"a": 0})
        self.assertEqual((run.value("u"), run.value("v")), (("none",), ("start", 1)))

    def test_a_put_before_the_copy(self):
        rows = [("put", "a", "f", "n"), ("copy", "c", "a", "thaw", 4), ("look", "u", "c", "f")]
        run = run_of(rows, chain(3), {"a": 0})
        self.assertEqual((run.made(), run.value("u")), (1, ("none",)))
        rows = [("put", "a", "f", "a"), ("copy", "c", "a", "thaw", 4), ("look", "u", "c", "f")]
        run = run_of(rows, chain(3), {"a": 0})
        self.assertEqual((run.made(), run.value("u")), (4, ("own", 1, False)))

    def test_copies_of_copies(self):
        for first in range(1, 5):
            for second in range(5):
                live = copied(chain(6), {"a": 0}, first)
                live.do(("copy", "d", "c", "freeze", second))
                self.assertEqual(live.made(), first + second)
                for far in range(6):
                    told = ("start", far)
                    if far < first:
                        told = ("own", far, False)
                    if far < second:
                        told = ("own", first + far, True)
                    self.assertEqual(value_behind(live, "d", "f" * far), told)

    def test_a_copy_may_take_the_place_of_its_origin(self):
        live = copied(chain(3), {"a": 0}, 1)
        live.do(("copy", "c", "c", "thaw", 2))
        self.assertEqual((live.value("c"), value_behind(live, "c", "f")), (("own", 1, False), ("own", 2, False)))


class FrozenTest(unittest.TestCase):
    def test_each_new_object_of_a_freeze_is_frozen(self):
        objects = two([(1, 2), (3, 4), (5, 6)] + [(None, None)] * 4)
        for path in ["", "f", "g", "ff", "fg", "gf", "gg"]:
            for depth in range(5):
                looks = [("move", "p", "c")] + [("look", "p", "p", field) for field in path]
                run = run_of([("copy", "c", "a", "freeze", depth)] + looks + [("put", "p", "f", "p")], objects,
                             {"a": 0})
                self.assertEqual(run.end()[0], "refused" if len(path) < depth else "done")
                thawed = run_of([("copy", "c", "a", "thaw", depth)] + looks + [("put", "p", "f", "p")], objects,
                                {"a": 0})
                self.assertEqual(thawed.end()[0], "done")

    def test_the_origin_of_a_frozen_copy_is_not_frozen(self):
        run = run_of([("copy", "c", "a", "freeze", 1), ("put", "a", "f", "c")], chain(1), {"a": 0})
        self.assertEqual(run.end(), ("done", None))

    def test_a_thawed_copy_of_a_frozen_object(self):
        rows = [("copy", "c", "a", "freeze", 2), ("copy", "d", "c", "thaw", 1), ("put", "d", "g", "a"),
                ("look", "e", "d", "f"), ("put", "e", "f", "a")]
        run = run_of(rows, two([(1, None), (None, None)]), {"a": 0})
        self.assertEqual((run.end(), run.value("d"), run.value("e")),
                         (("refused", (4,)), ("own", 2, False), ("own", 1, True)))

    def test_a_frozen_object_as_it_is(self):
        for row in [("move", "d", "c"), ("copy", "d", "c", "thaw", 0)]:
            run = run_of([("copy", "c", "a", "freeze", 1), row, ("put", "d", "f", "a")], chain(1), {"a": 0})
            self.assertEqual((run.end(), run.value("d")), (("refused", (2,)), ("own", 0, True)))

    def test_a_frozen_object_shares_what_can_be_written(self):
        rows = [("copy", "c", "a", "freeze", 1), ("look", "p", "c", "f"), ("put", "p", "f", "c")]
        run = run_of(rows, chain(2), {"a": 0})
        self.assertEqual((run.end(), run.behind().objects()), (("done", None), [{"f": 2}, {"f": 2}, {"f": 1}]))


class LooksTest(unittest.TestCase):
    def looks(self, rows, objects=None):
        return run_of(rows, objects or two([(1, 2), (2, None), (None, 0)]), {"a": 0, "b": 1}).looks()

    def test_start_objects(self):
        self.assertEqual(self.looks([]), [])
        self.assertEqual(self.looks([("look", "c", "a", "g"), ("look", "c", "c", "f"), ("look", "c", "a", "f")]),
                         [(0, "g"), (2, "f"), (0, "f")])

    def test_each_once_in_the_order_of_the_first_look(self):
        rows = [("look", "c", "b", "f"), ("look", "c", "a", "f"), ("look", "c", "b", "f"), ("look", "c", "a", "f")]
        self.assertEqual(self.looks(rows), [(1, "f"), (0, "f")])

    def test_a_look_at_nothing(self):
        self.assertEqual(self.looks([("look", "c", "b", "g"), ("look", "c", "c", "f")]), [(1, "g")])

    def test_only_look_rows_look(self):
        rows = [("copy", "c", "a", "thaw", 4), ("watch", "r", "a", 4), ("put", "a", "f", "b"), ("move", "d", "a"),
                ("same", "a", "b", [], []), ("empty", "a", [], []), ("new", "e"), ("none", "e")]
        self.assertEqual(self.looks(rows), [])

    def test_copies_and_copies_of_copies(self):
        self.assertEqual(self.looks([("copy", "c", "a", "thaw", 1), ("look", "d", "c", "f")]), [(0, "f")])
        self.assertEqual(self.looks([("copy", "c", "a", "freeze", 2), ("look", "d", "c", "f"), ("look", "d", "d", "g"),
                                     ("look", "d", "c", "g")]), [(0, "f"), (1, "g"), (0, "g")])
        for depth in range(5):
            rows = [("copy", "c", "a", "thaw", 3), ("copy", "d", "c", "freeze", depth), ("look", "e", "d", "g"),
                    ("look", "e", "e", "g"), ("look", "e", "e", "f")]
            self.assertEqual(self.looks(rows), [(0, "g"), (2, "g"), (0, "f")])

    def test_a_copy_and_its_origin_have_one_start_value(self):
        rows = [("copy", "c", "a", "thaw", 1), ("look", "d", "c", "f"), ("look", "d", "a", "f"),
                ("look", "d", "c", "g")]
        self.assertEqual(self.looks(rows), [(0, "f"), (0, "g")])

    def test_two_copies_of_one_object(self):
        rows = [("copy", "c", "a", "thaw", 2), ("look", "d", "c", "f"), ("look", "e", "c", "g"),
                ("look", "d", "d", "f"), ("look", "e", "e", "f")]
        self.assertEqual(self.looks(rows, two([(1, 1), (0, 0)])), [(0, "f"), (0, "g"), (1, "f")])

    def test_a_put_ends_it(self):
        self.assertEqual(self.looks([("put", "a", "f", "b"), ("look", "c", "a", "f"), ("look", "c", "a", "g")]),
                         [(0, "g")])
        self.assertEqual(self.looks([("look", "c", "a", "f"), ("put", "a", "f", "b"), ("look", "c", "a", "f")]),
                         [(0, "f")])

    def test_a_put_of_the_value_that_is_there_ends_it_too(self):
        self.assertEqual(self.looks([("put", "a", "f", "b"), ("look", "c", "a", "f")]), [])
        self.assertEqual(self.looks([("put", "b", "g", "n"), ("look", "c", "b", "g")]), [])

    def test_a_put_before_the_copy_is_copied_on(self):
        rows = [("put", "a", "f", "b"), ("copy", "c", "a", "thaw", 2), ("look", "d", "c", "f"), ("look", "d", "d", "f"),
                ("look", "d", "c", "g")]
        self.assertEqual(self.looks(rows), [(1, "f"), (0, "g")])

    def test_a_put_of_the_origin_behind_the_copy(self):
        rows = [("copy", "c", "a", "thaw", 1), ("put", "a", "f", "n"), ("look", "d", "c", "f"), ("look", "e", "a", "f")]
        run = run_of(rows, chain(2), {"a": 0})
        self.assertEqual((run.looks(), run.value("d"), run.value("e")), ([(0, "f")], ("start", 1), ("none",)))
        rows[2:] = [("look", "e", "a", "f")]
        self.assertEqual(run_of(rows, chain(2), {"a": 0}).looks(), [])

    def test_a_put_of_the_copy(self):
        rows = [("copy", "c", "a", "thaw", 1), ("put", "c", "f", "n"), ("look", "d", "c", "f"), ("look", "d", "c", "g")]
        self.assertEqual(self.looks(rows), [(0, "g")])
        rows = [("copy", "c", "a", "thaw", 1), ("put", "c", "f", "n"), ("copy", "d", "c", "thaw", 1),
                ("look", "e", "d", "f"), ("look", "e", "d", "g"), ("look", "e", "a", "f")]
        self.assertEqual(self.looks(rows), [(0, "g"), (0, "f")])
        rows = [("copy", "c", "a", "thaw", 1), ("copy", "d", "c", "thaw", 1), ("put", "c", "f", "n"),
                ("look", "e", "d", "f"), ("look", "e", "c", "f")]
        self.assertEqual(self.looks(rows), [(0, "f")])

    def test_new_objects_have_no_start_values(self):
        self.assertEqual(self.looks([("new", "c"), ("look", "d", "c", "f"), ("copy", "c", "c", "thaw", 2),
                                     ("look", "d", "c", "g")]), [])

    def test_what_is_put_into_a_field_is_no_start_value_there(self):
        rows = [("look", "c", "a", "g"), ("new", "d"), ("put", "d", "f", "c"), ("look", "e", "d", "f"),
                ("look", "e", "e", "g")]
        self.assertEqual(self.looks(rows), [(0, "g"), (2, "g")])

    def test_the_numbers_are_those_of_the_heap(self):
        self.assertEqual(run_of([("look", "c", "a", "f")], chain(3), {"a": 2}).looks(), [(2, "f")])


if __name__ == "__main__":
    unittest.main()
