import unittest

from helpers import ALL, Checks, chain, nest, run_of, two
from thawedwrites.errors import InvalidArgument
from thawedwrites.facts import Facts
from thawedwrites.heaps import Heap
from thawedwrites.programs import Program
from thawedwrites.runs import Run

# Puts that end a run: the variable n holds None, and c holds a frozen object.
HOLLOW_LOOK = ("look", "a", "n", "f")
HOLLOW_PUT = ("put", "n", "f", "a")
REFUSED_PUT = ("put", "c", "f", "n")
FREEZE = ("copy", "c", "a", "freeze", 1)


class EndTest(Checks, unittest.TestCase):
    def test_the_example(self):
        rows = [("copy", "b", "a", "freeze", 2), ("watch", "r", "b", 2), ("look", "c", "a", "f"),
                ("put", "c", "f", "a")]
        program = Program(["a"], ["f"], rows)
        heap = Heap(["f"], [{"f": 1}, {"f": None}], {"a": 0})
        deep = Run(program, heap)
        flat = Run(program.with_depths([1]), heap)
        self.assertEqual([deep.reached(), deep.made(), flat.reached(), flat.made(), flat.looks(), flat.value("b")],
                         [[], 2, [((3,), "r")], 1, [(0, "f")], ("own", 0, True)])

    def test_done(self):
        for rows in [[], [("new", "b")], [("move", "n", "a"), ("put", "n", "f", "a")], nest(3, [("none", "n")])]:
            self.assertEqual(run_of(rows, chain(2), {"a": 0, "n": None}).end(), ("done", None))
        self.assertIs(type(run_of([], [], {"a": None}).end()), tuple)

    def test_hollow(self):
        for row in [HOLLOW_LOOK, HOLLOW_PUT]:
            self.assertEqual(run_of([row], chain(2), {"a": 0, "n": None}).end(), ("hollow", (0,)))
            self.assertEqual(run_of([("new", "b"), row, ("new", "b")], chain(2), {"a": 0}).end(), ("hollow", (1,)))

    def test_refused(self):
        run = run_of([FREEZE, ("new", "b"), REFUSED_PUT, HOLLOW_PUT], chain(2), {"a": 0})
        self.assertEqual(run.end(), ("refused", (2,)))

    def test_a_put_row_is_not_hollow_because_of_what_it_puts(self):
        run = run_of([("put", "a", "f", "n")], chain(2), {"a": 0})
        self.assertEqual((run.end(), run.behind().objects()), (("done", None), [{"f": None}]))

    def test_rows_that_none_does_not_end(self):
        rows = [("move", "b", "n"), ("copy", "c", "n", "freeze", 4), ("watch", "r", "n", 4), ("same", "n", "b", [], []),
                ("empty", "n", [], []), ("none", "n")]
        self.assertEqual(run_of(rows, [], {"n": None}).end(), ("done", None))

    def test_places_inside_nested_rows(self):
        for row, word in [(HOLLOW_LOOK, "hollow"), (HOLLOW_PUT, "hollow"), (REFUSED_PUT, "refused")]:
            inner = [("new", "b"), row]
            for rows, place in [
                ([FREEZE, ("empty", "n", inner, [])], (1, 0, 1)),
                ([FREEZE, ("empty", "a", [], inner)], (1, 1, 1)),
                ([FREEZE, ("same", "a", "a", inner, [])], (1, 0, 1)),
                ([FREEZE, ("same", "a", "c", [], inner)], (1, 1, 1)),
                ([FREEZE, ("empty", "n", [], []), ("same", "a", "c", [], [("empty", "n", [("empty", "n", inner, [])],
                                                                         [])])], (2, 1, 0, 0, 0, 0, 1)),
            ]:
                run = run_of(rows + [("new", "a")], chain(2), {"a": 0, "n": None})
                self.assertEqual(run.end(), (word, place))
                self.assertEqual(run.made(), 2)

    def test_the_row_at_which_the_run_ends_does_nothing(self):
        for rows in [[HOLLOW_LOOK], [HOLLOW_PUT], [FREEZE, REFUSED_PUT],
                     [FREEZE, ("empty", "n", [REFUSED_PUT], [])]]:
            watch = [("watch", "r", "a", 1), ("copy", "c", "a", "freeze", 1), ("watch", "s", "c", 4)]
            before = run_of(watch + rows[:-1], chain(2), {"a": 0, "n": None})
            run = run_of(watch + rows + [("new", "a")], chain(2), {"a": 0, "n": None})
            self.assertNotEqual(run.end()[0], "done")
            self.assertEqual((run.reached(), run.looks(), run.made()), ([], [], before.made()))
            self.assertEqual([run.value(name) for name in "acn"], [before.value(name) for name in "acn"])
            self.assertEqual(run.behind().objects(), before.behind().objects())

    def test_rows_behind_the_end_are_not_run(self):
        run = run_of([("empty", "a", [], [HOLLOW_LOOK, ("new", "b")]), ("new", "d")], chain(1), {"a": 0})
        self.assertEqual((run.value("b"), run.value("d"), run.made()), (("none",), ("none",), 0))

    def test_no_other_rows_than_the_chosen_ones(self):
        for x, y, first in [("a", "b", False), ("a", "a", True), ("n", "m", True), ("a", "n", False),
                            ("n", "a", False), ("a", "d", True)]:
            rows = [("same", x, y, [("new", "u")], [("new", "u"), ("new", "u")])]
            run = run_of(rows, chain(2), {"a": 0, "b": 1, "d": 0})
            self.assertEqual((run.end(), run.made()), (("done", None), 1 if first else 2))
        for x, first in [("a", False), ("n", True)]:
            run = run_of([("empty", x, [("new", "u")], [("new", "u"), ("new", "u")])], chain(2), {"a": 0})
            self.assertEqual((run.end(), run.made()), (("done", None), 1 if first else 2))

    def test_only_one_object_is_the_same_object(self):
        rows = [("copy", "b", "a", "thaw", 1), ("new", "c"), ("new", "d"), ("same", "a", "b", [("new", "e")], []),
                ("same", "c", "d", [("new", "e")], [])]
        self.assertEqual(run_of(rows, [{"f": None}], {"a": 0}).value("e"), ("none",))

    def test_what_is_asked_is_asked_when_the_row_is_run(self):
        rows = [("move", "b", "a"), ("same", "a", "b", [("none", "b"), ("empty", "b", [("new", "c")], [])], [])]
        self.assertEqual(run_of(rows, chain(1), {"a": 0}).value("c"), ("own", 0, False))


class ValueTest(Checks, unittest.TestCase):
    def setUp(self):
        rows = [("new", "b"), ("copy", "c", "a", "freeze", 1), ("copy", "d", "a", "thaw", 2), ("look", "e", "a", "f")]
        self.program = Program(["a"], ["f"], rows, outputs=["o"])
        self.run_here = Run(self.program, Heap(["f"], chain(3), {"a": 1}))

    def test_values(self):
        told = {"a": ("start", 1), "b": ("own", 0, False), "c": ("own", 1, True), "d": ("own", 2, False),
                "e": ("start", 2), "o": ("none",)}
        for name, value in told.items():
            self.assertEqual(self.run_here.value(name), value)
        self.assertIs(self.run_here.value("c")[2], True)
        self.assertIs(self.run_here.value("d")[2], False)

    def test_a_word_that_is_no_variable(self):
        for name in ["z", "abcdefgh", "f"]:
            self.assertEqual(self.run_here.value(name), ("none",))

    def test_a_name_that_is_no_word(self):
        for name in ALL:
            if name not in ["a", "z", "f", "abcdefgh"]:
                self.assert_argument_error("name", self.run_here.value, name)

    def test_inputs_hold_what_the_names_hold(self):
        run = Run(Program(["c", "a", "b"], ["f"], []), Heap(["f"], chain(3), {"a": 2, "b": None, "c": 0}))
        self.assertEqual([run.value(name) for name in "abcd"], [("start", 2), ("none",), ("start", 0), ("none",)])

    def test_start_objects_have_the_numbers_of_the_heap_not_of_its_normal_form(self):
        run = run_of([("look", "b", "a", "f")], [{"f": 2}, {"f": 0}, {"f": 1}], {"a": 2})
        self.assertEqual((run.value("a"), run.value("b"), run.looks()), (("start", 2), ("start", 1), [(2, "f")]))

    def test_moves_nones_and_news(self):
        rows = [("new", "b"), ("new", "b"), ("move", "c", "b"), ("none", "b"), ("move", "d", "n"), ("move", "a", "a")]
        run = run_of(rows, chain(1), {"a": 0})
        self.assertEqual([run.value(name) for name in "abcd"],
                         [("start", 0), ("none",), ("own", 1, False), ("none",)])
        self.assertEqual(run.made(), 2)

    def test_a_new_object_holds_nothing(self):
        run = run_of([("new", "b")], two([(0, 0)]), {"a": 0})
        self.assertEqual(run.behind().objects(), two([(0, 0), (None, None)]))

    def test_behind(self):
        rows = [("copy", "c", "b", "thaw", 1), ("put", "c", "f", "a"), ("put", "a", "f", "c"), ("none", "b")]
        program = Program(["b", "a"], ["f"], rows, outputs=["o"])
        run = Run(program, Heap(["f"], chain(4), {"a": 3, "b": 0}))
        behind = run.behind()
        self.assertIs(type(behind), Heap)
        self.assertEqual((behind.fields, behind.objects()), (("f",), [{"f": 1}, {"f": 0}]))
        self.assertEqual(behind.names(), {"a": 0, "b": None, "c": 1, "o": None})

    def test_behind_is_in_normal_form(self):
        run = run_of([("look", "a", "b", "g")], two([(None, None), (0, 2), (1, 1)]), {"b": 1})
        self.assertEqual(run.behind().objects(), two([(1, 1), (2, 0), (None, None)]))
        self.assertEqual(run.behind().names(), {"a": 0, "b": 1})

    def test_behind_of_the_largest_run(self):
        rows = [("copy", name, "a", "thaw", 4) for name in "bcde"] + [("new", "z"), ("put", "z", "f", "a")]
        objects = two([((2 * at + 1) % 100, (2 * at + 2) % 100) for at in range(100)])
        run = run_of(rows, objects, {"a": 0})
        self.assertEqual((run.end(), run.made()), (("done", None), 61))
        self.assertEqual(len(run.behind()), 161)

    def test_nothing_of_a_run_changes(self):
        heap = Heap(["f"], chain(3), {"a": 0})
        program = Program(["a"], ["f"], [("watch", "r", "a", 1), ("look", "b", "a", "f"), ("put", "b", "f", "a")])
        run = Run(program, heap)
        first = (run.end(), run.reached(), run.looks(), run.behind())
        run.reached().clear()
        run.looks().append(None)
        run.behind().objects().clear()
        run.behind().names().clear()
        self.assertEqual((run.end(), run.reached(), run.looks(), run.behind()), first)
        self.assertEqual(first[:3], (("done", None), [((2,), "r")], [(0, "f")]))
        self.assertIsNot(run.reached(), run.reached())
        self.assertIsNot(run.looks(), run.looks())
        self.assertEqual((heap.objects(), heap.names()), (chain(3), {"a": 0}))
        self.assertEqual(program.rows()[1], ("look", "b", "a", "f"))
        self.assertEqual(Run(program, heap).behind(), first[3])

    def test_keywords(self):
        self.assertEqual(Run(program=self.program, heap=Heap(["f"], chain(2), {"a": 0})).value(name="a"), ("start", 0))


class FitTest(Checks, unittest.TestCase):
    def test_a_value_that_is_no_heap(self):
        for value in ALL + [Facts(["f"], {"a": None}, {}), [{"f": None}]]:
            if not isinstance(value, Heap):
                self.assert_argument_error("heap", Run, Program(["a"], ["f"], []), value)

    def test_fields(self):
        program = Program(["a"], ["f", "g"], [])
        for fields in [["g", "f"], ["f"], ["g"], ["f", "h"]]:
            self.assert_argument_error("heap", Run, program, Heap(fields, [], {"a": None}))
        self.assertEqual(Run(program, Heap(["f", "g"], [], {"a": None})).end(), ("done", None))

    def test_names(self):
        program = Program(["b", "a"], ["f"], [], outputs=["c"])
        for names in [{}, {"a": None}, {"b": 0}, {"a": 0, "b": 0, "c": 0}, {"a": 0, "c": 0}]:
            self.assert_argument_error("heap", Run, program, Heap(["f"], chain(1), names))
        for names in [{"a": 0, "b": None}, {"b": None, "a": 0}]:
            self.assertEqual(Run(program, Heap(["f"], chain(1), names)).value("a"), ("start", 0))

    def test_100_and_101_objects(self):
        program = Program(["a"], ["f"], [("look", "b", "a", "f")])
        run = Run(program, Heap(["f"], chain(100), {"a": 98}))
        self.assertEqual((run.end(), run.value("b")), (("done", None), ("start", 99)))
        for many in [101, 200]:
            self.assert_argument_error("heap", Run, program, Heap(["f"], chain(many), {"a": 0}))
            self.assert_argument_error("heap", Run, program, Heap(["f"], chain(many), {"a": None}))

    def test_no_objects(self):
        self.assertEqual(Run(Program(["a"], ["f"], [("new", "a")]), Heap(["f"], [], {"a": None})).made(), 1)

    def test_the_run_is_not_made_where_the_heap_does_not_fit(self):
        with self.assertRaises(InvalidArgument):
            Run(Program(["a"], ["f"], [("look", "a", "a", "f")]), Heap(["f"], [], {}))


if __name__ == "__main__":
    unittest.main()
