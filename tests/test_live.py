import unittest

from helpers import ALL, NINE, WORDS, Checks, chain, is_number, live_of, state, two
from thawedwrites.errors import Hollow, InvalidArgument, LimitExceeded, Refused, RunError
from thawedwrites.heaps import Heap
from thawedwrites.live import Live

PLAIN = NINE[:7]
NO_WORDS = [value for value in ALL if not (isinstance(value, str) and value in WORDS)]


class LiveTest(Checks, unittest.TestCase):
    def test_the_example(self):
        live = Live(Heap(["f"], [{"f": 0}], {"a": 0}))
        rows = [("copy", "b", "a", "freeze", 1), ("watch", "r", "b", 1), ("put", "a", "f", "b"), ("put", "b", "f", "a")]
        self.assertEqual([live.trial(rows), live.value("b"), live.made(), live["a", "f"]],
                         [("refused", 3, [(0, "r")]), ("none",), 0, ("start", 0)])

    def test_a_value_that_is_no_heap(self):
        for value in ALL:
            if not isinstance(value, Heap):
                self.assert_argument_error("heap", Live, value)

    def test_100_and_101_objects(self):
        self.assertEqual(live_of(chain(100), {"a": 98})["a", "f"], ("start", 99))
        for many in [101, 200]:
            self.assert_argument_error("heap", live_of, chain(many), {"a": 0})
            self.assert_argument_error("heap", live_of, chain(many), {})

    def test_any_names(self):
        live = live_of(chain(2), {})
        self.assertEqual((live.value("a"), live.made(), live.reached()), (("none",), 0, []))
        live = live_of(chain(6), {letter: at for at, letter in enumerate("fedcba")})
        self.assertEqual([live.value(letter) for letter in "abcdefg"],
                         [("start", at) for at in range(5, -1, -1)] + [("none",)])

    def test_the_heap_does_not_change(self):
        heap = Heap(["f"], chain(2), {"a": 0})
        live, other = Live(heap), Live(heap)
        live["a", "f"] = "a"
        live.do(("none", "a"))
        self.assertEqual((heap.objects(), heap.names()), (chain(2), {"a": 0}))
        self.assertEqual((other.value("a"), other["a", "f"]), (("start", 0), ("start", 1)))

    def test_each_kind_of_row(self):
        live = live_of(chain(3), {"a": 0})
        told = [
            (("move", "b", "a"), "b", ("start", 0)),
            (("look", "b", "b", "f"), "b", ("start", 1)),
            (("new", "c"), "c", ("own", 0, False)),
            (("copy", "d", "a", "freeze", 2), "d", ("own", 1, True)),
            (("copy", "e", "d", "thaw", 1), "e", ("own", 3, False)),
            (("copy", "d", "b", "freeze", 0), "d", ("start", 1)),
            (("put", "b", "f", "c"), "b", ("start", 1)),
            (("watch", "r", "a", 1), "a", ("start", 0)),
            (("none", "a"), "a", ("none",)),
        ]
        for row, name, value in told:
            self.assertIsNone(live.do(row))
            self.assertEqual(live.value(name), value)
        self.assertEqual((live.made(), live["b", "f"], live.reached()), (4, ("own", 0, False), []))
        live["b", "f"] = "e"
        self.assertEqual(live.reached(), [(1, "r")])

    def test_no_bound_on_rows_variables_copies_and_readers(self):
        live = live_of(chain(2), {"a": 0})
        letters = "abcdefghijklmnopqrstuvwxyz"
        words = ["x" + one + other for one in letters for other in letters]
        for word in words:
            live.do(("copy", word, "a", "thaw", 4))
            live.do(("watch", word, word, 1))
        for word in words:
            live.do(("put", word, "f", word))
        self.assertEqual((live.made(), len(words)), (2 * 676, 676))
        self.assertEqual(live.reached(), [(at, word) for at, word in enumerate(words)])
        self.assertEqual(live.value(words[-1]), ("own", 1350, False))
        self.assertEqual(live.attempt([("put", "a", "f", "a")] * 3000), 3000)

    def test_a_reader_of_many_views(self):
        live = live_of(chain(5), {"a": 0})
        live.attempt([("look", "b", "a", "f"), ("watch", "r", "b", 2), ("watch", "s", "a", 2), ("look", "d", "b", "f"),
                      ("look", "d", "d", "f")])
        live["d", "f"] = "n"
        live["a", "f"] = "d"
        live["d", "f"] = "a"
        live["b", "f"] = "b"
        live["d", "f"] = "a"
        self.assertEqual(live.reached(), [(0, "r"), (1, "s"), (2, "r"), (2, "s"), (3, "r"), (4, "s")])


class DoTest(Checks, unittest.TestCase):
    def test_a_row_that_is_no_plain_row(self):
        live = live_of(two([(0, 0)]), {"a": 0})
        before = state(live)
        wrong = ALL + [PLAIN, [("new", "a")], ("same", "a", "a", [], []), ("empty", "a", [], []), ("other", "a"),
                       ("new",), ("new", "a", "b"), ["new", "a"], ("move", "a"), ("look", "b", "a"),
                       ("look", "b", "a", "h"), ("look", "b", "a", ["f"]), ("put", "a", "h", "a"), ("put", "a", "f"),
                       ("copy", "b", "a", "freeze"), ("copy", "b", "a", "melt", 1), ("copy", "b", "a", "freeze", 5),
                       ("copy", "b", "a", "thaw", -1), ("copy", "b", "a", "thaw", True), ("copy", "b", "a", 1, 1),
                       ("copy", "b", "a", "thaw", 1.0), ("watch", "r", "a", 5), ("watch", "r", "a", False),
                       ("watch", "R", "a", 1), ("watch", "r", "a"), (["new"], "a"),
                       ("empty", "a", [("new", "a")], [("new", "a")]), ("new", "abcdefghi"), ("new", "A")]
        for row in wrong:
            self.assert_argument_error("row", live.do, row)
        for value in NO_WORDS:
            for row in [("move", "a", value), ("none", value), ("put", "a", "f", value), ("watch", value, "a", 1),
                        ("look", value, "a", "f"), ("look", "b", "a", value), ("copy", "b", value, "freeze", 1),
                        ("copy", "b", "a", value, 1)]:
                self.assert_argument_error("row", live.do, row)
            if not is_number(value, 0, 4):
                self.assert_argument_error("row", live.do, ("watch", "r", "a", value))
                self.assert_argument_error("row", live.do, ("copy", "b", "a", "freeze", value))
        self.assertEqual(state(live), before)

    def test_fields_are_those_of_the_heap(self):
        live = Live(Heap(["g"], [{"g": 0}], {"a": 0}))
        self.assert_argument_error("row", live.do, ("look", "b", "a", "f"))
        live.do(("look", "b", "a", "g"))
        self.assertEqual(live.value("b"), ("start", 0))

    def test_a_reader_is_told_once(self):
        live = live_of(chain(2), {"a": 0})
        live.do(("watch", "r", "a", 1))
        live.do(("watch", "s", "n", 1))
        for row in [("watch", "r", "a", 1), ("watch", "r", "n", 2), ("watch", "s", "a", 1)]:
            self.assert_argument_error("row", live.do, row)
        live["a", "f"] = "n"
        self.assertEqual(live.reached(), [(0, "r")])

    def test_hollow(self):
        live = live_of(chain(2), {"a": 0, "n": None})
        before = state(live)
        self.assert_stopped(Hollow, "n", live.do, ("look", "a", "n", "f"))
        self.assert_stopped(Hollow, "m", live.do, ("look", "n", "m", "f"))
        self.assert_stopped(Hollow, "n", live.do, ("put", "n", "f", "a"))
        self.assertEqual(state(live), before)

    def test_refused(self):
        live = live_of(chain(2), {"a": 0})
        live.duplicate("b", "a")
        live.watch("r", "b", depth=4)
        before = state(live)
        self.assert_stopped(Refused, "b", live.do, ("put", "b", "f", "n"))
        self.assertEqual(state(live), before)
        live.do(("look", "c", "b", "f"))
        live.do(("put", "c", "f", "b"))
        self.assertEqual(live.reached(), [(0, "r")])

    def test_the_row_is_looked_at_first(self):
        live = live_of(chain(1), {"n": None})
        for row in [("look", "a", "n", "g"), ("put", "n", "g", "a"), ("put", "n", "f", "A")]:
            self.assert_argument_error("row", live.do, row)

    def test_errors_are_those_of_the_package(self):
        for error in [Hollow, Refused]:
            self.assertTrue(issubclass(error, RunError))


class ItemsTest(Checks, unittest.TestCase):
    def setUp(self):
        self.live = live_of(two([(1, None), (None, 0)]), {"a": 0, "n": None})

    def test_what_a_field_holds(self):
        live = self.live
        live.attempt([("copy", "b", "a", "freeze", 2), ("new", "c"), ("put", "c", "g", "b"), ("put", "c", "f", "c")])
        self.assertEqual([live[name, field] for name in "abc" for field in "fg"],
                         [("start", 1), ("none",), ("own", 1, True), ("none",), ("own", 2, False), ("own", 0, True)])

    def test_nothing_changes(self):
        before = state(self.live)
        for _ in range(2):
            self.assertEqual(self.live["a", "f"], ("start", 1))
        self.assertEqual(state(self.live), before)

    def test_wrong_keys(self):
        wrong = ALL + [("a", "f", "g"), ("a",), ["a", "f"], "af", ("a", "h"), ("A", "f"), ("f", "a"), (0, "f"),
                       ("a", 0), (None, "f"), ("a", None), (["a"], "f"), ("a", ["f"]), {"a": "f"}, ("a", ("f",)),
                       (True, "f")]
        before = state(self.live)
        for key in wrong:
            self.assert_argument_error("key", self.live.__getitem__, key)
            self.assert_argument_error("key", self.live.__setitem__, key, "a")
            self.assert_argument_error("key", self.live.__setitem__, key, None)
        for value in NO_WORDS:
            self.assert_argument_error("key", lambda one: self.live[one, "f"], value)
            self.assert_argument_error("key", lambda one: self.live["a", one], value)
        self.assertEqual(state(self.live), before)

    def test_a_variable_that_holds_none(self):
        self.assert_stopped(Hollow, "n", self.live.__getitem__, ("n", "f"))
        self.assert_stopped(Hollow, "zz", self.live.__getitem__, ("zz", "g"))
        self.assert_argument_error("key", self.live.__getitem__, ("n", "h"))

    def test_putting(self):
        self.live["a", "g"] = "a"
        self.live["a", "f"] = "n"
        self.assertEqual((self.live["a", "g"], self.live["a", "f"]), (("start", 0), ("none",)))
        self.live.watch("r", "a")
        self.live["a", "f"] = "a"
        self.assertEqual(self.live.reached(), [(2, "r")])

    def test_putting_with_wrong_values(self):
        before = state(self.live)
        for value in NO_WORDS:
            self.assert_argument_error("value", self.live.__setitem__, ("a", "f"), value)
            self.assert_argument_error("value", self.live.__setitem__, ("n", "f"), value)
        self.assertEqual(state(self.live), before)

    def test_putting_where_it_cannot_be_done(self):
        self.live.duplicate("b", "a")
        before = state(self.live)
        self.assert_stopped(Hollow, "n", self.live.__setitem__, ("n", "f"), "a")
        self.assert_stopped(Refused, "b", self.live.__setitem__, ("b", "g"), "b")
        self.assertEqual(state(self.live), before)

    def test_a_live_is_not_iterated_over(self):
        with self.assertRaises(TypeError):
            list(self.live)


class ShortFormsTest(Checks, unittest.TestCase):
    def test_duplicate(self):
        live = live_of(chain(4), {"a": 0})
        self.assertIsNone(live.duplicate("b", "a"))
        self.assertEqual((live.value("b"), live["b", "f"], live.made()), (("own", 0, True), ("start", 1), 1))
        live.duplicate("c", "a", kind="thaw", depth=3)
        self.assertEqual((live.value("c"), live["c", "f"], live.made()), (("own", 1, False), ("own", 2, False), 4))
        live.duplicate(x="d", y="n", depth=0)
        self.assertEqual(live.value("d"), ("none",))
        with self.assertRaises(TypeError):
            live.duplicate("b", "a", "thaw", 1)

    def test_watch(self):
        live = live_of(chain(4), {"a": 0})
        self.assertIsNone(live.watch("r", "a"))
        live.watch(reader="s", x="a", depth=3)
        live.watch("t", "n")
        live.attempt([("look", "b", "a", "f"), ("put", "b", "f", "b"), ("look", "b", "b", "f"), ("look", "b", "b", "f"),
                      ("put", "a", "f", "a")])
        self.assertEqual(live.reached(), [(0, "r"), (0, "s"), (1, "r"), (1, "s")])
        with self.assertRaises(TypeError):
            live.watch("u", "a", 1)

    def test_what_is_wrong_is_the_row(self):
        live = live_of(chain(2), {"a": 0})
        live.watch("r", "a")
        before = state(live)
        for value in NO_WORDS:
            self.assert_argument_error("row", live.duplicate, value, "a")
            self.assert_argument_error("row", live.duplicate, "a", value)
            self.assert_argument_error("row", live.duplicate, "a", "a", kind=value)
            self.assert_argument_error("row", live.watch, value, "a")
            self.assert_argument_error("row", live.watch, "s", value)
            if not is_number(value, 0, 4):
                self.assert_argument_error("row", live.duplicate, "a", "a", depth=value)
                self.assert_argument_error("row", live.watch, "s", "a", depth=value)
        self.assert_argument_error("row", live.watch, "r", "a")
        self.assert_argument_error("row", live.watch, "s", "a", depth=5)
        self.assertEqual(state(live), before)
        live.watch("s", "a")


class QuestionsTest(Checks, unittest.TestCase):
    def test_value(self):
        live = live_of(chain(2), {"a": 1})
        live.attempt([("copy", "b", "a", "freeze", 1), ("new", "c")])
        self.assertEqual([live.value(name) for name in "abcd"],
                         [("start", 1), ("own", 0, True), ("own", 1, False), ("none",)])
        for name in NO_WORDS:
            self.assert_argument_error("name", live.value, name)

    def test_is_same(self):
        live = live_of(chain(2), {"a": 0, "b": 1, "c": 0, "n": None})
        live.duplicate("d", "a")
        told = {("a", "c"): True, ("a", "a"): True, ("a", "b"): False, ("a", "d"): False, ("a", "n"): False,
                ("n", "a"): False, ("n", "zz"): True, ("n", "n"): True, ("d", "d"): True}
        for (x, y), answer in told.items():
            self.assertIs(live.is_same(x, y), answer)
        self.assertIs(live.is_same(y="a", x="c"), True)

    def test_is_same_of_what_is_no_word(self):
        live = live_of(chain(1), {"a": 0})
        for value in NO_WORDS:
            self.assert_argument_error("x", live.is_same, value, "a")
            self.assert_argument_error("x", live.is_same, value, value)
            self.assert_argument_error("y", live.is_same, "a", value)

    def test_numbers_of_puts(self):
        live = live_of(chain(2), {"a": 0, "n": None})
        live["a", "f"] = "a"
        live.watch("r", "a", depth=0)
        self.assertEqual(live.reached(), [])
        self.assert_stopped(Hollow, "n", live.do, ("put", "n", "f", "a"))
        live["a", "f"] = "n"
        live.watch("q", "a")
        live["a", "f"] = "n"
        self.assertEqual(live.reached(), [(1, "r"), (2, "q"), (2, "r")])
        live.reached().clear()
        self.assertEqual(live.reached(), [(1, "r"), (2, "q"), (2, "r")])
        self.assertIsNot(live.reached(), live.reached())

    def test_behind(self):
        live = live_of(two([(2, None), (None, None), (1, 0)]), {"a": 0, "b": 1})
        live.attempt([("copy", "c", "a", "freeze", 1), ("put", "a", "g", "c")])
        behind = live.behind(["c", "b", "n"])
        self.assertIs(type(behind), Heap)
        self.assertEqual((behind.fields, behind.names()), (("f", "g"), {"b": 0, "c": 1, "n": None}))
        self.assertEqual(behind.objects(), two([(None, None), (2, None), (0, 3), (2, 1)]))
        for names in [[], ()]:
            self.assertEqual((live.behind(names).objects(), live.behind(names).names()), ([], {}))
        self.assertEqual(live.behind(("b", "a")).names(), {"a": 0, "b": 1})
        self.assertEqual(live.behind(list("abcdef")), live.behind(list("fedcba")))
        live.do(("none", "c"))
        self.assertEqual(behind.names(), {"b": 0, "c": 1, "n": None})

    def test_behind_of_wrong_names(self):
        live = live_of(chain(1), {"a": 0})
        for value in ALL + [["a", "a"], ("b", "a", "b"), list("abcdefg"), {"a", "b"}, {"a": 0}, "ab", ["a", "B"],
                            ["a", 0], [["a"]]]:
            if value not in ([], (), ["a"], ("a",)):
                self.assert_argument_error("names", live.behind, value)
        for value in NO_WORDS:
            self.assert_argument_error("names", live.behind, ["a", value])

    def test_behind_of_200_and_of_201_objects(self):
        live = live_of(chain(100), {"a": 0, "b": None})
        for _ in range(100):
            live.attempt([("new", "c"), ("put", "c", "f", "b"), ("move", "b", "c")])
        behind = live.behind(["a", "b"])
        self.assertEqual((len(behind), behind["a"], behind["b"]), (200, 0, 1))
        live.attempt([("new", "c"), ("put", "c", "f", "b")])
        before = live.reached(), live.made()
        for names in [["a", "c"], ("c", "a", "b")]:
            with self.assertRaises(LimitExceeded) as caught:
                live.behind(names)
            self.assertEqual(caught.exception.limit, 200)
        self.assertEqual((live.reached(), live.made()), before)
        self.assertEqual((len(live.behind(["c"])), len(live.behind(["a", "b"]))), (101, 200))
        self.assert_argument_error("names", live.behind, ["a", "c", "A"])

    def test_objects_that_no_variable_comes_to_do_not_count(self):
        live = live_of(chain(100), {"a": 99})
        for _ in range(300):
            live.do(("new", "b"))
        self.assertEqual((len(live.behind(["a", "b"])), live.made()), (2, 300))


if __name__ == "__main__":
    unittest.main()
