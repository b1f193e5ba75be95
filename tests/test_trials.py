import unittest

from helpers import ALL, NINE, Checks, chain, live_of, state
from thawedwrites.errors import Hollow, Refused
from thawedwrites.facts import Facts

# Rows of each kind that can be done with objects f: 0 -> 1 -> 2 and a at 0, and that change all that can change.
GOOD = [("look", "b", "a", "f"), ("watch", "r", "a", 2), ("put", "b", "f", "a"), ("copy", "c", "a", "freeze", 2),
        ("watch", "s", "c", 4), ("new", "d"), ("put", "d", "f", "c"), ("put", "a", "f", "d"), ("move", "e", "c"),
        ("none", "a"), ("look", "d", "d", "f")]
GOOD_REACHED = [(0, "r"), (2, "r"), (2, "s")]


class TrialTest(Checks, unittest.TestCase):
    def setUp(self):
        self.live = live_of(chain(3), {"a": 0})

    def test_all_rows_can_be_done(self):
        before = state(self.live)
        for _ in range(3):
            told = self.live.trial(GOOD)
            self.assertEqual(told, ("done", None, GOOD_REACHED))
            self.assertEqual((type(told), type(told[2])), (tuple, list))
            self.assertEqual(state(self.live), before)

    def test_no_rows(self):
        before = state(self.live)
        self.assertEqual(self.live.trial([]), ("done", None, []))
        self.assertEqual(self.live.attempt([]), 0)
        self.assertEqual(state(self.live), before)

    def test_a_row_that_cannot_be_done(self):
        before = state(self.live)
        for rows, word in [([("look", "b", "n", "f")], "hollow"), ([("put", "n", "f", "b")], "hollow"),
                           ([("copy", "a", "b", "freeze", 1), ("put", "a", "f", "b")], "refused")]:
            told = self.live.trial(GOOD + rows + [("new", "a")])
            self.assertEqual(told, (word, len(GOOD) + len(rows) - 1, GOOD_REACHED))
            self.assertEqual(state(self.live), before)
        self.assertEqual(self.live.trial([("put", "n", "f", "b")] + GOOD), ("hollow", 0, []))

    def test_the_row_that_cannot_be_done_reaches_nothing(self):
        rows = [("copy", "b", "a", "freeze", 1), ("watch", "r", "b", 4), ("put", "b", "f", "a")]
        self.assertEqual(self.live.trial(rows), ("refused", 2, []))

    def test_what_was_reached_before_is_told_too(self):
        self.live.watch("z", "a", depth=0)
        self.live["a", "f"] = "a"
        self.assertEqual(self.live.trial([("watch", "r", "a", 0), ("put", "a", "f", "n")]),
                         ("done", None, [(0, "z"), (1, "r"), (1, "z")]))
        self.assertEqual(self.live.reached(), [(0, "z")])

    def test_it_goes_on_as_if_there_had_been_no_trial(self):
        other = live_of(chain(3), {"a": 0})
        for live in [self.live, other]:
            live.attempt([("look", "b", "a", "f"), ("watch", "z", "b", 1), ("copy", "c", "b", "thaw", 1),
                          ("put", "c", "f", "b")])
        self.live.trial(GOOD)
        self.live.trial(GOOD + [("put", "n", "f", "a")])
        with self.assertRaises(Hollow):
            self.live.attempt(GOOD + [("put", "n", "f", "a")])
        self.assertEqual(state(self.live), state(other))
        for row in GOOD:
            self.live.do(row)
            other.do(row)
            self.assertEqual(state(self.live), state(other))
        self.assertEqual(self.live.value("e"), ("own", 1, True))
        self.assertEqual(self.live.reached(), other.reached())

    def test_readers_are_told_no_longer(self):
        self.live.trial([("watch", "r", "a", 4), ("watch", "s", "n", 4)])
        self.live["a", "f"] = "n"
        self.assertEqual(self.live.reached(), [])
        self.live.watch("r", "a")
        self.live.watch("s", "a")
        self.live["a", "f"] = "n"
        self.assertEqual(self.live.reached(), [(1, "r"), (1, "s")])

    def test_readers_look_at_what_they_looked_at(self):
        self.live.attempt([("look", "b", "a", "f"), ("watch", "r", "a", 1), ("new", "c")])
        self.assertEqual(self.live.trial([("put", "a", "f", "c"), ("put", "b", "f", "n"), ("put", "c", "f", "n")]),
                         ("done", None, [(0, "r"), (2, "r")]))
        self.assertEqual(self.live.trial([("put", "c", "f", "n"), ("put", "b", "f", "n")]), ("done", None, [(1, "r")]))
        # Here the last put of the trial is one that the reader does not see.
        self.assertEqual(self.live.trial([("put", "a", "f", "c"), ("put", "b", "f", "n")]), ("done", None, [(0, "r")]))
        self.live["b", "f"] = "n"
        self.assertEqual(self.live.reached(), [(0, "r")])

    def test_a_reader_of_an_object_with_the_number_of_one_of_a_trial(self):
        self.live.trial([("new", "c"), ("watch", "r", "c", 4), ("put", "a", "f", "n")])
        self.live.attempt([("copy", "c", "a", "thaw", 1), ("watch", "r", "c", 4), ("look", "b", "a", "f")])
        self.live["b", "f"] = "n"
        self.assertEqual(self.live.reached(), [(0, "r")])

    def test_a_variable_without_a_value_is_so_again(self):
        self.live.trial([("move", "zz", "a"), ("move", "a", "n")])
        self.assertEqual((self.live.value("zz"), self.live.value("a")), (("none",), ("start", 0)))

    def test_frozen_objects_of_a_trial_are_gone(self):
        self.live.trial([("copy", "b", "a", "freeze", 4)])
        self.live.duplicate("b", "a", kind="thaw")
        self.live["b", "f"] = "a"
        self.assertEqual((self.live.value("b"), self.live.made()), (("own", 0, False), 1))

    def test_rows_are_not_changed(self):
        rows = list(GOOD)
        self.live.trial(rows)
        self.live.attempt(rows)
        self.assertEqual(rows, GOOD)

    def test_what_is_returned_is_new(self):
        self.live.attempt([("watch", "r", "a", 1), ("put", "a", "f", "a")])
        self.live.trial([])[2].clear()
        self.assertEqual(self.live.reached(), [(0, "r")])


class AttemptTest(Checks, unittest.TestCase):
    def setUp(self):
        self.live = live_of(chain(3), {"a": 0})

    def test_all_rows_can_be_done(self):
        other = live_of(chain(3), {"a": 0})
        for row in GOOD:
            other.do(row)
        self.assertEqual(self.live.attempt(GOOD), len(GOOD))
        self.assertEqual(state(self.live), state(other))
        self.assertEqual(self.live.reached(), GOOD_REACHED)
        self.assert_argument_error("row", self.live.watch, "r", "a")

    def test_a_row_that_cannot_be_done(self):
        before = state(self.live)
        for rows, error, name in [([("look", "b", "n", "f")], Hollow, "n"), ([("put", "m", "f", "b")], Hollow, "m"),
                                  ([("put", "e", "f", "b")], Refused, "e")]:
            self.assert_stopped(error, name, self.live.attempt, GOOD + rows + [("put", "zz", "f", "a")])
            self.assertEqual(state(self.live), before)
        self.live.watch("r", "a")

    def test_one_attempt_behind_another(self):
        self.assertEqual(self.live.attempt([("new", "b"), ("put", "b", "f", "a")]), 2)
        rows = [("new", "c"), ("put", "b", "f", "n"), ("put", "n", "f", "b")]
        self.assert_stopped(Hollow, "n", self.live.attempt, rows)
        self.assertEqual((self.live["b", "f"], self.live.made()), (("start", 0), 1))
        self.assertEqual(self.live.attempt([("new", "c")]), 1)
        self.assertEqual(self.live.value("c"), ("own", 1, False))

    def test_a_field_that_is_written_twice(self):
        self.assert_stopped(Hollow, "n", self.live.attempt, [("put", "a", "f", "n"), ("put", "a", "f", "a"),
                                                             ("put", "n", "f", "a")])
        self.assertEqual(self.live["a", "f"], ("start", 1))


class RowsTest(Checks, unittest.TestCase):
    def setUp(self):
        self.live = live_of(chain(3), {"a": 0})
        self.live.watch("told", "a")
        self.live.watch("none", "n")

    def assert_wrong(self, rows):
        before = state(self.live)
        self.assert_argument_error("rows", self.live.trial, rows)
        self.assert_argument_error("rows", self.live.attempt, rows)
        self.assertEqual(state(self.live), before)

    def test_what_is_no_list(self):
        for value in ALL + [tuple(GOOD), {("new", "a"): 0}, ("new", "a"), iter(GOOD), Facts(["f"], {"a": 0}, {})]:
            if value != []:
                self.assert_wrong(value)

    def test_what_is_no_plain_row(self):
        for value in ALL + [("same", "a", "a", [], []), ("empty", "a", [], []), ("look", "b", "a", "g"), ["new", "a"],
                            ("copy", "b", "a", "freeze", 5), ("other",), ("new", "A"), NINE]:
            self.assert_wrong([value])
            self.assert_wrong(GOOD + [value])
            self.assert_wrong([("put", "n", "f", "a"), value])

    def test_a_reader_that_is_told_twice(self):
        self.assert_wrong([("watch", "q", "a", 1), ("watch", "q", "b", 2)])
        self.assert_wrong([("watch", "q", "a", 1), ("put", "n", "f", "a"), ("watch", "q", "a", 1)])
        self.assert_wrong([("watch", "told", "a", 1)])
        self.assert_wrong([("new", "b"), ("watch", "none", "b", 1)])
        self.assert_wrong([("put", "n", "f", "a"), ("watch", "told", "a", 1)])
        self.assertEqual(self.live.attempt([("watch", "q", "a", 1), ("watch", "a", "a", 1)]), 2)

    def test_a_row_may_stand_there_twice(self):
        row = ("put", "a", "f", "n")
        self.assertEqual(self.live.trial([row, row]), ("done", None, [(0, "told"), (1, "told")]))


if __name__ == "__main__":
    unittest.main()
