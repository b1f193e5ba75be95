import unittest

from helpers import ALL, INTEGERS, NEITHER, NINE, Checks, is_number, nest
from thawedwrites.programs import Program


class HeadErrorsTest(Checks, unittest.TestCase):
    def test_inputs(self):
        for inputs in ALL:
            if inputs != ["a"] and inputs != ("a",):
                self.assert_program_error("inputs", (), inputs, ["f"], [])
        for inputs in [["a", "a"], ("a", "b", "a"), ["a", "b", "c", "d"], "abc", {"a": 0}, {"a", "b"}]:
            self.assert_program_error("inputs", (), inputs, ["f"], [])
        for word in NEITHER + INTEGERS:
            self.assert_program_error("inputs", (), [word], ["f"], [])
            self.assert_program_error("inputs", (), ("a", "b", word), ["f"], [])
        self.assertEqual(Program(["c", "a", "b"], ["f"], []).inputs, ("c", "a", "b"))

    def test_fields(self):
        for fields in ALL:
            if fields != ["a"] and fields != ("a",):
                self.assert_program_error("fields", (), ["a"], fields, [])
        for fields in [["f", "f"], ["f", "g", "h"], (), "fg", {"f": 0}]:
            self.assert_program_error("fields", (), ["a"], fields, [])
        for word in NEITHER + INTEGERS:
            self.assert_program_error("fields", (), ["a"], [word, "f"], [])
            self.assert_program_error("fields", (), ["a"], ("f", word), [])

    def test_outputs(self):
        for outputs in ALL:
            if outputs not in ([], (), ["a"], ("a",)):
                self.assert_program_error("outputs", (), ["a"], ["f"], [], outputs=outputs)
        for outputs in [["a", "a"], ["a", "b", "c", "d"], "abc", {"a": 0}, {}, set()]:
            self.assert_program_error("outputs", (), ["a"], ["f"], [], outputs=outputs)
        for word in NEITHER + INTEGERS:
            self.assert_program_error("outputs", (), ["a"], ["f"], [], outputs=["b", "c", word])
        self.assertEqual(Program(["a"], ["f"], [], outputs=["c", "a", "b"]).outputs, ("c", "a", "b"))

    def test_rows_that_are_no_list(self):
        for rows in ALL + [(("new", "a"),), {0: ("new", "a")}, ("new", "a"), iter([("new", "a")])]:
            if type(rows) is not list:
                self.assert_program_error("form", (), ["a"], ["f"], rows)

    def test_the_order_of_the_checks(self):
        self.assert_program_error("inputs", (), [], [], None, outputs=None)
        self.assert_program_error("fields", (), ["a"], [], None, outputs=None)
        self.assert_program_error("outputs", (), ["a"], ["f"], None, outputs=None)
        self.assert_program_error("outputs", (), ["a"], ["f"], [None], outputs=["A"])
        self.assert_program_error("form", (), ["a"], ["f"], None, outputs=["b"])
        self.assert_program_error("form", (0,), ["a"], ["f"], [None] * 21, outputs=["b"])


class RowErrorsTest(Checks, unittest.TestCase):
    def assert_row_error(self, part, row):
        """The row is wrong wherever it stands."""
        self.assert_program_error(part, (0,), ["a"], ["f"], [row])
        self.assert_program_error(part, (1,), ["a"], ["f"], [("new", "a"), row, None])
        self.assert_program_error(part, (0, 0, 1), ["a"], ["f"], [("empty", "a", [("new", "a"), row], [None])])
        self.assert_program_error(part, (0, 1, 0, 1, 0, 1, 0), ["a"], ["f"], nest(3, [row]))

    def test_the_example(self):
        self.assert_program_error("name", (0, 0, 1), ["a"], ["f"],
                                  [("empty", "a", [("new", "b"), ("look", "b", "a", "g")], [])])

    def test_a_row_that_is_no_tuple_with_a_row_word(self):
        for value in ALL:
            self.assert_row_error("form", value)
            self.assert_row_error("form", (value,))
            self.assert_row_error("form", (value, "a"))
        for row in NINE:
            self.assert_row_error("form", list(row))
            self.assert_row_error("form", (list(row),))
            self.assert_row_error("form", row[1:])
        for word in ["", "New", "new ", "news", "freeze", "rows", "else", "a", ("new",), ["new"], b"new", {"new": 0}]:
            self.assert_row_error("form", (word, "a"))

    def test_another_number_of_items(self):
        for row in NINE:
            for many in range(1, len(row)):
                self.assert_row_error("form", row[:many])
            self.assert_row_error("form", row + ("a",))
            self.assert_row_error("form", row + ([],))
            self.assert_row_error("form", row + (1,))
        self.assert_row_error("form", ("empty", "a", "b", [], []))
        self.assert_row_error("form", ("same", "a", [], []))

    def test_rows_inside_that_are_no_list(self):
        for value in ALL:
            if type(value) is not list:
                self.assert_row_error("form", ("empty", "a", value, []))
                self.assert_row_error("form", ("empty", "a", [], value))
                self.assert_row_error("form", ("same", "a", "b", value, []))
                self.assert_row_error("form", ("same", "a", "b", [], value))
        self.assert_row_error("form", ("empty", "a", (("new", "a"),), []))
        self.assert_row_error("form", ("empty", [], "a", []))

    def test_variables_and_readers(self):
        for value in NEITHER + INTEGERS:
            for row in [
                ("move", value, "a"), ("move", "a", value), ("none", value), ("new", value),
                ("look", value, "a", "f"), ("look", "a", value, "f"), ("put", value, "f", "a"),
                ("put", "a", "f", value), ("copy", value, "a", "thaw", 1), ("copy", "a", value, "thaw", 1),
                ("watch", value, "a", 1), ("watch", "r", value, 1), ("same", value, "a", [], []),
                ("same", "a", value, [], []), ("empty", value, [], []),
            ]:
                self.assert_row_error("name", row)

    def test_fields_kinds_and_depths(self):
        for value in [value for value in ALL if value != "f"] + ["g", "ff"]:
            self.assert_row_error("name", ("look", "a", "a", value))
            self.assert_row_error("name", ("put", "a", value, "a"))
        for value in ALL + ["frozen", "Freeze", "thawed", ("freeze",), ["thaw"]]:
            self.assert_row_error("name", ("copy", "a", "a", value, 1))
        for value in [value for value in ALL if not is_number(value, 0, 4)] + [5, "1", 2.0, (1,), [1]]:
            self.assert_row_error("name", ("copy", "a", "a", "thaw", value))
            self.assert_row_error("name", ("watch", "r", "a", value))

    def test_both_fields_of_a_program(self):
        rows = [("look", "a", "a", "g"), ("put", "a", "f", "a"), ("put", "a", "h", "a")]
        self.assert_program_error("name", (2,), ["a"], ["f", "g"], rows)
        self.assertEqual(Program(["a"], ["g", "f"], rows[:2]).rows(), rows[:2])

    def test_form_comes_ahead_of_name(self):
        self.assert_row_error("form", ("new", 1, 2))
        self.assert_row_error("form", ("empty", 1, [], ()))
        self.assert_row_error("name", ("empty", 1, [None], []))
        self.assert_row_error("name", ("same", "a", None, [], [None]))

    def test_deep(self):
        self.assert_program_error("deep", (0, 1, 0, 1, 0, 1, 0, 1, 0), ["a"], ["f"], nest(4, [("new", "a")]))
        self.assert_program_error("deep", (0, 1, 0, 1, 0, 1, 0, 1, 0), ["a"], ["f"], nest(9, [("new", "a")]))
        for value in [None, (), ("look", "a"), ("new", 1), ("watch", "r", "a", 1)]:
            self.assert_program_error("deep", (1, 1, 0, 1, 0, 1, 0, 1, 0), ["a"], ["f"],
                                      [("watch", "r", "a", 1)] + nest(4, [value]))
        self.assert_program_error("deep", (0, 0, 0, 0, 0, 0, 2, 1, 0), ["a"], ["f"], [("empty", "a", [
            ("empty", "a", [("empty", "a", [("new", "a"), ("new", "a"), ("empty", "a", [], [()])], [])], []),
        ], [])])

    def test_deep_and_form_at_one_row(self):
        # The last row of the allowed depth has a wrong form itself, so the row inside it is not gone to.
        self.assert_program_error("form", (0, 1, 0, 1, 0, 1, 0), ["a"], ["f"],
                                  nest(3, [("empty", "a", [("new", "a")], None)]))

    def test_a_list_of_rows_inside_itself(self):
        rows = []
        rows.append(("empty", "a", rows, []))
        self.assert_program_error("deep", (0, 0, 0, 0, 0, 0, 0, 0, 0), ["a"], ["f"], rows)

    def test_reader(self):
        watch = ("watch", "r", "a", 1)
        self.assert_program_error("reader", (1,), ["a"], ["f"], [watch, watch])
        self.assert_program_error("reader", (2,), ["a"], ["f"], [watch, ("watch", "s", "a", 1), ("watch", "r", "b", 2)])
        self.assert_program_error("reader", (0, 1, 0), ["a"], ["f"], [("empty", "a", [watch], [watch])])
        self.assert_program_error("reader", (1,), ["a"], ["f"], [("empty", "a", [], [watch]), watch])
        self.assert_program_error("reader", (1, 0, 0), ["a"], ["f"], [watch, ("empty", "a", [watch], []), watch])
        self.assert_program_error("name", (1,), ["a"], ["f"], [watch, ("watch", "r", "a", 5)])
        self.assert_program_error("form", (1,), ["a"], ["f"], [watch, ("watch", "r", "a")])
        self.assert_program_error("reader", (4,), ["a"], ["f"], [("watch", name, "a", 1) for name in "pqrsp"])

    def test_a_variable_and_a_reader_of_one_name(self):
        program = Program(["a"], ["f"], [("watch", "a", "a", 1), ("watch", "b", "a", 1), ("new", "b")])
        self.assertEqual(program.readers(), [("a", (0,)), ("b", (1,))])

    def test_the_first_wrong_row_in_depth_first_order(self):
        look = ("look", "a", "a", "g")
        self.assert_program_error("name", (0, 0, 0), ["a"], ["f"], [("empty", "a", [look], [None]), None])
        self.assert_program_error("form", (0, 1, 0), ["a"], ["f"], [("empty", "a", [], [None, look]), look])
        self.assert_program_error("form", (1,), ["a"], ["f"], [("empty", "a", [], []), ("empty", "a", [look], ())])
        self.assert_program_error("name", (0, 0, 0, 1, 1), ["a"], ["f"], [
            ("same", "a", "a", [("empty", "a", [], [("new", "a"), look, None])], [None]), None])
        self.assert_program_error("deep", (0, 1, 0, 1, 0, 1, 0, 1, 0), ["a"], ["f"], nest(4, [("new", "a")]) + [None])
        self.assert_program_error("name", (0,), ["a"], ["f"], [look] + nest(4, [("new", "a")]))

    def test_rows_that_are_wrong_come_ahead_of_many(self):
        for row, part in [(None, "form"), (("new", 1), "name"), (("watch", "p", "a", 1), "reader")]:
            self.assert_program_error(part, (25,), ["a"], ["f"], [("watch", name, name, 1) for name in "pqrst"]
                                      + [("copy", "a", "a", "thaw", 1)] * 20 + [row])

    def test_an_error_leaves_what_was_passed(self):
        inner = [("new", "b"), ("look", "b", "a", "g")]
        rows = [("empty", "a", inner, [])]
        self.assert_program_error("name", (0, 0, 1), ["a"], ["f"], rows)
        self.assertEqual(rows, [("empty", "a", [("new", "b"), ("look", "b", "a", "g")], [])])


class ManyTest(Checks, unittest.TestCase):
    def test_rows(self):
        new = ("new", "a")
        self.assertEqual(len(Program(["a"], ["f"], [new] * 20).places()), 20)
        self.assert_program_error("many", (), ["a"], ["f"], [new] * 21)
        self.assertEqual(len(Program(["a"], ["f"], [("empty", "a", [new] * 9, [new] * 9), new]).places()), 20)
        self.assert_program_error("many", (), ["a"], ["f"], [("empty", "a", [new] * 9, [new] * 9), new, new])
        self.assert_program_error("many", (), ["a"], ["f"], [("empty", "a", [new] * 10, [new] * 10)])
        self.assertEqual(len(Program(["a"], ["f"], nest(3, [new] * 17)).places()), 20)
        self.assert_program_error("many", (), ["a"], ["f"], nest(3, [new] * 18))

    def test_variables(self):
        rows = [("new", name) for name in "abcdefg"]
        self.assertEqual(Program(["a"], ["f"], rows[:6]).variables(), list("abcdef"))
        self.assert_program_error("many", (), ["a"], ["f"], rows)
        self.assertEqual(Program(list("xyz"), ["f"], [], outputs=list("abc")).variables(), list("xyzabc"))
        self.assert_program_error("many", (), list("xyz"), ["f"], rows[3:4], outputs=list("abc"))
        self.assertEqual(len(Program(list("abc"), ["f"], rows[:6], outputs=list("def")).variables()), 6)
        self.assert_program_error("many", (), ["a"], ["f"], rows[:6], outputs=["g"])
        self.assert_program_error("many", (), ["g"], ["f"], rows[:6])
        self.assert_program_error("many", (), ["a"], ["f"], [("empty", "b", [("move", "c", "d")], [("move", "e", "f")]),
                                                             ("put", "a", "f", "g")])
        self.assert_program_error("many", (), ["a"], ["f"], rows[:4] + [("watch", "r", "e", 1), ("move", "f", "g")])

    def test_readers_and_fields_are_no_variables(self):
        rows = [("new", name) for name in "abcdef"] + [("watch", "r", "a", 1), ("look", "b", "a", "g")]
        self.assertEqual(len(Program(["a"], ["g"], rows).variables()), 6)

    def test_copies(self):
        copy = ("copy", "a", "a", "thaw", 0)
        self.assertEqual(len(Program(["a"], ["f"], [copy] * 4).copies()), 4)
        self.assert_program_error("many", (), ["a"], ["f"], [copy] * 5)
        rows = [copy, ("empty", "a", [copy], [("same", "a", "a", [copy], [copy])])]
        self.assertEqual(len(Program(["a"], ["f"], rows).copies()), 4)
        self.assert_program_error("many", (), ["a"], ["f"], rows + [copy])

    def test_watch_rows(self):
        rows = [("watch", name, "a", 1) for name in "pqrs"]
        self.assertEqual(len(Program(["a"], ["f"], rows[:3]).readers()), 3)
        self.assert_program_error("many", (), ["a"], ["f"], rows)
        inside = [rows[0], ("empty", "a", [rows[1]], [("same", "a", "a", [], [rows[2]])])]
        self.assertEqual(len(Program(["a"], ["f"], inside).readers()), 3)
        self.assert_program_error("many", (), ["a"], ["f"], inside + [rows[3]])

    def test_all_bounds_at_once(self):
        rows = ([("copy", "a", "b", "thaw", 1)] * 4 + [("watch", name, "c", 1) for name in "pqr"]
                + [("move", "d", "e")] * 12 + [("new", "f")])
        program = Program(["a"], ["f"], rows)
        self.assertEqual([len(program.places()), len(program.variables()), len(program.copies()),
                          len(program.readers())], [20, 6, 4, 3])


if __name__ == "__main__":
    unittest.main()
