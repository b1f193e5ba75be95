import unittest

from helpers import ALL, HEAP, NINE, Checks, is_number, nest
from thawedwrites.programs import Program


def inner_lists(rows):
    """All lists of rows inside the rows."""
    found = []
    for row in rows:
        for part in row:
            if isinstance(part, list):
                found.append(part)
                found.extend(inner_lists(part))
    return found


class ProgramTest(Checks, unittest.TestCase):
    def test_the_example(self):
        rows = [("empty", "a", [("new", "b")], [("look", "b", "a", "f")]), ("put", "b", "f", "a")]
        program = Program(["a"], ["f"], rows, outputs=["c"])
        self.assertEqual([program.places(), program.writes(), program.variables()],
                         [[(0,), (0, 0, 0), (0, 1, 0), (1,)], [(1,)], ["a", "b", "c"]])

    def test_each_form(self):
        for row in NINE:
            program = Program(["a"], ["f"], [row])
            self.assertEqual(program.rows(), [row])
            self.assertEqual(program.row((0,)), row)
        self.assertEqual(Program(["a"], ["f"], NINE).rows(), NINE)

    def test_attributes_are_tuples(self):
        for kind in (list, tuple):
            program = Program(kind("ab"), kind("gf"), [], outputs=kind("bca"))
            self.assertEqual((program.inputs, program.fields, program.outputs),
                             (("a", "b"), ("g", "f"), ("b", "c", "a")))
            self.assertEqual([type(part) for part in (program.inputs, program.fields, program.outputs)], [tuple] * 3)

    def test_no_outputs(self):
        for program in [Program(["a"], ["f"], []), Program(["a"], ["f"], [], outputs=[])]:
            self.assertEqual((program.outputs, program.rows(), program.places()), ((), [], []))
            self.assertEqual((program.copies(), program.writes(), program.readers(), program.variables()),
                             ([], [], [], ["a"]))

    def test_outputs_are_passed_by_keyword_alone(self):
        with self.assertRaises(TypeError):
            Program(["a"], ["f"], [], ["b"])
        program = Program(inputs=["a"], fields=["f"], rows=[("new", "b")], outputs=["b"])
        self.assertEqual(program.row(place=(0,)), ("new", "b"))
        self.assertEqual(program.with_depths(depths=[]), program)

    def test_the_three_uses_of_words_are_apart(self):
        program = Program(["f"], ["f"], [("watch", "f", "f", 1), ("put", "f", "f", "f")])
        self.assertEqual((program.variables(), program.readers()), (["f"], [("f", (0,))]))

    def test_words_and_depths_at_their_bounds(self):
        for depth in range(5):
            for kind in ("freeze", "thaw"):
                row = ("copy", "abcdefgh", "z", kind, depth)
                self.assertEqual(Program(["a"], ["f"], [row]).rows(), [row])
            self.assertEqual(Program(["a"], ["f"], [("watch", "abcdefgh", "a", depth)]).readers(),
                             [("abcdefgh", (0,))])

    def test_later_changes_of_what_was_passed_do_nothing(self):
        inputs, fields, outputs, deep = ["a"], ["f"], ["b"], [("new", "a")]
        middle = [("empty", "a", [], deep)]
        rows = [("same", "a", "b", middle, [("none", "a")]), ("copy", "b", "a", "thaw", 1)]
        program = Program(inputs, fields, rows, outputs=outputs)
        passed = [("same", "a", "b", [("empty", "a", [], [("new", "a")])], [("none", "a")]),
                  ("copy", "b", "a", "thaw", 1)]
        inputs[0], fields[0], outputs[0] = "x", "x", "x"
        deep.append(("watch", "r", "a", 1))
        deep[0] = None
        middle.clear()
        rows[0][4].append(None)
        rows.append(("new", "q"))
        self.assertEqual((program.inputs, program.fields, program.outputs), (("a",), ("f",), ("b",)))
        self.assertEqual(program.rows(), passed)
        self.assertEqual(program.places(), [(0,), (0, 0, 0), (0, 0, 0, 1, 0), (0, 1, 0), (1,)])
        self.assertEqual([program.row(place) for place in program.places()],
                         [passed[0], passed[0][3][0], ("new", "a"), ("none", "a"), passed[1]])
        self.assertEqual(program.with_depths([3]).rows()[0], passed[0])
        self.assertEqual(program, Program(["a"], ["f"], passed, outputs=["b"]))

    def test_later_changes_of_what_was_returned_do_nothing(self):
        passed = [("same", "a", "b", [("empty", "a", [], [("new", "a")])], [("watch", "r", "b", 1)]),
                  ("copy", "b", "a", "thaw", 1), ("put", "a", "f", "b")]
        program = Program(["a"], ["f"], passed)
        for change in [lambda: program.rows()[0][3][0][3].clear(), lambda: program.rows()[0][4].clear(),
                       lambda: program.rows().clear(), lambda: program.row((0,))[3][0][3].append(None),
                       lambda: program.row((0,))[4].clear(), lambda: program.row((0, 0, 0))[3].clear(),
                       lambda: program.places().clear(), lambda: program.copies().clear(),
                       lambda: program.writes().clear(), lambda: program.readers().clear(),
                       lambda: program.variables().clear()]:
            change()
        self.assertEqual(program.rows(), passed)
        self.assertEqual(program.row((0,)), passed[0])
        self.assertEqual(program.row((0, 0, 0)), passed[0][3][0])
        self.assertEqual(program.places(), [(0,), (0, 0, 0), (0, 0, 0, 1, 0), (0, 1, 0), (1,), (2,)])
        self.assertEqual((program.copies(), program.writes()), ([(1,)], [(2,)]))
        self.assertEqual((program.readers(), program.variables()), ([("r", (0, 1, 0))], ["a", "b"]))
        self.assertEqual(program, Program(["a"], ["f"], passed))

    def test_each_returned_list_is_new(self):
        program = Program(["a"], ["f"], NINE)
        for method in [program.rows, program.places, program.copies, program.writes, program.readers,
                       program.variables]:
            self.assertIs(type(method()), list)
            self.assertEqual(method(), method())
            self.assertIsNot(method(), method())
        ids = [id(part) for part in inner_lists(NINE)]
        one, other = program.rows(), program.rows()
        lists = inner_lists(one) + inner_lists(other) + inner_lists([program.row((7,)), program.row((8,))])
        self.assertEqual(len({id(part) for part in lists} | set(ids)), len(lists) + len(ids))

    def test_one_list_passed_for_several(self):
        inner = [("new", "a")]
        program = Program(["a"], ["f"], [("empty", "a", inner, inner), ("empty", "b", inner, [])])
        rows = program.rows()
        rows[0][2].clear()
        self.assertEqual(rows, [("empty", "a", [], [("new", "a")]), ("empty", "b", [("new", "a")], [])])
        self.assertEqual(program.places(), [(0,), (0, 0, 0), (0, 1, 0), (1,), (1, 0, 0)])

    def test_nothing_is_modified(self):
        inputs, fields, outputs, depths = ["a"], ["f"], ["b"], [1]
        rows = nest(3, [("copy", "a", "a", "thaw", 2)])
        program = Program(inputs, fields, rows, outputs=outputs)
        other = program.with_depths(depths)
        joined = program | other
        self.assertEqual((inputs, fields, outputs, depths), (["a"], ["f"], ["b"], [1]))
        self.assertEqual(rows, nest(3, [("copy", "a", "a", "thaw", 2)]))
        self.assertEqual(program.rows(), rows)
        self.assertEqual(joined.rows(), rows + other.rows())


class PlacesTest(Checks, unittest.TestCase):
    def setUp(self):
        self.rows = [
            ("watch", "s", "c", 1),
            ("same", "b", "d", [
                ("copy", "a", "d", "thaw", 1),
                ("empty", "e", [("put", "a", "f", "e")], [("copy", "d", "b", "freeze", 2), ("new", "b")]),
            ], [
                ("watch", "r", "a", 0),
                ("put", "b", "f", "d"),
            ]),
            ("put", "c", "f", "c"),
            ("copy", "c", "a", "freeze", 3),
        ]
        self.program = Program(["c", "a"], ["f"], self.rows, outputs=["g", "e", "a"])

    def test_places(self):
        self.assertEqual(self.program.places(), [(0,), (1,), (1, 0, 0), (1, 0, 1), (1, 0, 1, 0, 0), (1, 0, 1, 1, 0),
                                                 (1, 0, 1, 1, 1), (1, 1, 0), (1, 1, 1), (2,), (3,)])
        self.assertEqual(self.program.places(), sorted(self.program.places()))
        self.assertTrue(all(type(place) is tuple for place in self.program.places()))

    def test_copies_and_writes(self):
        self.assertEqual(self.program.copies(), [(1, 0, 0), (1, 0, 1, 1, 0), (3,)])
        self.assertEqual(self.program.writes(), [(1, 0, 1, 0, 0), (1, 1, 1), (2,)])

    def test_readers_are_in_the_order_of_their_places(self):
        self.assertEqual(self.program.readers(), [("s", (0,)), ("r", (1, 1, 0))])

    def test_variables(self):
        self.assertEqual(self.program.variables(), ["c", "a", "b", "d", "e", "g"])

    def test_variables_of_each_form_from_left_to_right(self):
        for row, told in [
            (("move", "q", "p"), ["q", "p"]), (("none", "q"), ["q"]), (("new", "q"), ["q"]),
            (("look", "q", "p", "f"), ["q", "p"]), (("put", "q", "f", "p"), ["q", "p"]),
            (("copy", "q", "p", "thaw", 1), ["q", "p"]), (("watch", "r", "q", 1), ["q"]),
            (("same", "q", "p", [("new", "m")], [("new", "l")]), ["q", "p", "m", "l"]),
            (("empty", "q", [("new", "m")], [("new", "l")]), ["q", "m", "l"]),
        ]:
            self.assertEqual(Program(["x"], ["f"], [row]).variables(), ["x"] + told)
        self.assertEqual(Program(["x", "b"], ["f"], [("move", "b", "x")], outputs=["x"]).variables(), ["x", "b"])
        rows = [("empty", "d", [("new", "c")], []), ("move", "b", "c")]
        self.assertEqual(Program(["z"], ["f"], rows, outputs=["a", "d"]).variables(), ["z", "d", "c", "b", "a"])

    def test_row(self):
        row = self.program.row
        self.assertEqual([row((0,)), row((1,)), row((2,)), row((3,))], self.rows)
        self.assertEqual(row((1, 0, 0)), ("copy", "a", "d", "thaw", 1))
        self.assertEqual(row((1, 0, 1)), self.rows[1][3][1])
        self.assertEqual(row((1, 0, 1, 1, 1)), ("new", "b"))
        self.assertEqual(row((1, 1, 0)), ("watch", "r", "a", 0))

    def test_row_where_no_row_is(self):
        for place in [(), (4,), (-1,), (1, 0), (1, 1), (1, 2, 0), (1, -1, 0), (1, 0, 2), (1, 0, -1), (1, 1, 2),
                      (0, 0, 0), (0, 0), (1, 0, 0, 0, 0), (1, 0, 1, 0, 1), (1, 0, 1, 1, 0, 0), (1, 0, 1, 1, 0, 0, 0),
                      (True,), (False,), (1, False, 0), (1, 0, True), (True, 0, 0), (1, 0, False), (1.0,), (0.0,),
                      ("0",), (None,), ((0,),), ([0],), ({},), (0, None), [0], [1, 0, 0], 0, 1, "0", {0: 0}, {0},
                      (10 ** 30,), (0,) * 1000, (HEAP,), range(1), iter((0,))]:
            self.assert_argument_error("place", self.program.row, place)
        for place in ALL:
            self.assert_argument_error("place", self.program.row, place)
            if not is_number(place, 0, 1):
                self.assert_argument_error("place", self.program.row, (1, place, 0))
                self.assert_argument_error("place", self.program.row, (1, 0, place))
        self.assert_argument_error("place", Program(["a"], ["f"], []).row, (0,))

    def test_rows_inside_rows_up_to_the_depth_that_is_allowed(self):
        program = Program(["a"], ["f"], nest(3, [("new", "a"), ("new", "b")]))
        self.assertEqual(program.rows(), nest(3, [("new", "a"), ("new", "b")]))
        self.assertEqual(program.places(), [(0,), (0, 1, 0), (0, 1, 0, 1, 0), (0, 1, 0, 1, 0, 1, 0),
                                            (0, 1, 0, 1, 0, 1, 1)])
        self.assertEqual(program.row((0, 1, 0, 1, 0, 1, 1)), ("new", "b"))

    def test_empty_lists_of_rows(self):
        rows = nest(4, [])
        program = Program(["a"], ["f"], rows + [("same", "a", "a", [], [])])
        self.assertEqual(program.rows(), rows + [("same", "a", "a", [], [])])
        self.assertEqual(program.places(), [(0,), (0, 1, 0), (0, 1, 0, 1, 0), (0, 1, 0, 1, 0, 1, 0), (1,)])


class WithDepthsTest(Checks, unittest.TestCase):
    def setUp(self):
        self.rows = [
            ("copy", "a", "b", "freeze", 0),
            ("same", "a", "b", [
                ("empty", "a", [], [("copy", "b", "a", "thaw", 1), ("new", "a")]),
            ], [("copy", "c", "a", "freeze", 2)]),
            ("watch", "r", "a", 2),
            ("copy", "d", "a", "thaw", 3),
        ]
        self.program = Program(["a"], ["f"], self.rows, outputs=["d"])

    def test_the_copies_get_the_depths_in_the_order_of_their_places(self):
        told = [
            ("copy", "a", "b", "freeze", 4),
            ("same", "a", "b", [
                ("empty", "a", [], [("copy", "b", "a", "thaw", 3), ("new", "a")]),
            ], [("copy", "c", "a", "freeze", 1)]),
            ("watch", "r", "a", 2),
            ("copy", "d", "a", "thaw", 0),
        ]
        for depths in [[4, 3, 1, 0], (4, 3, 1, 0)]:
            program = self.program.with_depths(depths)
            self.assertIs(type(program), Program)
            self.assertEqual(program.rows(), told)
            self.assertEqual((program.inputs, program.fields, program.outputs), (("a",), ("f",), ("d",)))
            self.assertEqual([program.row(place)[4] for place in program.copies()], [4, 3, 1, 0])

    def test_the_program_stays_as_it_was(self):
        depths = [4, 3, 1, 0]
        other = self.program.with_depths(depths)
        depths[0] = 1
        self.assertEqual(self.program.rows(), self.rows)
        self.assertEqual(other.with_depths([0, 1, 2, 3]), self.program)
        self.assertEqual(other.rows()[0][4], 4)

    def test_a_program_without_copies(self):
        program = Program(["a"], ["f"], [("watch", "r", "a", 2)], outputs=["a"])
        self.assertEqual(program.with_depths([]), program)
        self.assertEqual(program.with_depths(()), program)
        self.assert_argument_error("depths", program.with_depths, [0])

    def test_errors(self):
        for depths in ALL + [[0, 1, 2], [0, 1, 2, 3, 4], [], {0: 0, 1: 0, 2: 0, 3: 0}, {0, 1, 2, 3}, range(4), "0123",
                             iter([0, 0, 0, 0]), b"0000"]:
            self.assert_argument_error("depths", self.program.with_depths, depths)
        for depth in [value for value in ALL if not is_number(value, 0, 4)] + [5]:
            self.assert_argument_error("depths", self.program.with_depths, [0, 1, 2, depth])
            self.assert_argument_error("depths", self.program.with_depths, (depth, 1, 2, 3))
        for depths in [None, 0, "", {}, set(), HEAP, self.program]:
            self.assert_argument_error("depths", Program(["a"], ["f"], []).with_depths, depths)


class JoinTest(Checks, unittest.TestCase):
    def test_the_rows_of_both(self):
        one = Program(["a", "b"], ["f"], [("empty", "a", [("new", "c")], []), ("watch", "r", "a", 1)], outputs=["c"])
        other = Program(("a", "b"), ("f",), [("watch", "s", "b", 1), ("empty", "b", [], [("new", "d")])],
                        outputs=["d", "a"])
        joined = one | other
        self.assertIs(type(joined), Program)
        self.assertEqual(joined.rows(), one.rows() + other.rows())
        self.assertEqual((joined.inputs, joined.fields, joined.outputs), (("a", "b"), ("f",), ("d", "a")))
        self.assertEqual(joined.places(), [(0,), (0, 0, 0), (1,), (2,), (3,), (3, 1, 0)])
        self.assertEqual((other | one).rows(), other.rows() + one.rows())
        self.assertEqual((other | one).outputs, ("c",))

    def test_the_operands_stay_as_they_were(self):
        one = Program(["a"], ["f"], nest(2, [("new", "c")]), outputs=["c"])
        other = Program(["a"], ["f"], nest(2, [("new", "d")]))
        joined = one | other
        joined.rows()[0][3].clear()
        self.assertEqual(one, Program(["a"], ["f"], nest(2, [("new", "c")]), outputs=["c"]))
        self.assertEqual(other, Program(["a"], ["f"], nest(2, [("new", "d")])))
        self.assertEqual(joined.rows(), one.rows() + other.rows())
        joined = one
        joined |= other
        self.assertEqual(one.rows(), nest(2, [("new", "c")]))
        self.assertEqual(joined.outputs, ())

    def test_with_itself_and_with_no_rows(self):
        one = Program(["a"], ["f"], [("new", "a")], outputs=["b"])
        empty = Program(["a"], ["f"], [])
        self.assertEqual((one | one).rows(), [("new", "a"), ("new", "a")])
        self.assertEqual(empty | one, one)
        self.assertEqual((one | empty, (one | empty).outputs), (Program(["a"], ["f"], [("new", "a")]), ()))

    def test_other_inputs_or_fields(self):
        one = Program(["a", "b"], ["f", "g"], [])
        for inputs, fields in [(["b", "a"], ["f", "g"]), (["a"], ["f", "g"]), (["a", "b", "c"], ["f", "g"]),
                               (["a", "b"], ["g", "f"]), (["a", "b"], ["f"]), (["a", "c"], ["f", "h"])]:
            other = Program(inputs, fields, [])
            self.assert_argument_error("other", lambda: one | other)
            self.assert_argument_error("other", lambda: other | one)

    def test_other_inputs_come_ahead_of_what_is_no_program(self):
        one = Program(["a"], ["f"], [("watch", "r", "a", 1)])
        other = Program(["b"], ["f"], [("watch", "r", "b", 1)])
        self.assert_argument_error("other", lambda: one | other)

    def assert_join_error(self, part, place, one, other):
        before = one.rows(), other.rows()
        rows = one.rows() + other.rows()
        self.assert_program_error(part, place, one.inputs, one.fields, rows)
        with self.assertRaises(ValueError) as caught:
            one | other
        self.assertEqual((type(caught.exception).__name__, caught.exception.part, caught.exception.place),
                         ("InvalidProgram", part, place))
        self.assertEqual((one.rows(), other.rows()), before)

    def test_a_reader_that_both_have(self):
        one = Program(["a"], ["f"], [("new", "a"), ("watch", "r", "a", 1)])
        other = Program(["a"], ["f"], [("empty", "a", [], [("new", "a"), ("watch", "r", "a", 2)])])
        self.assert_join_error("reader", (2, 1, 1), one, other)
        self.assert_join_error("reader", (2,), other, one)
        self.assert_join_error("reader", (3,), one, one)

    def test_too_many_in_all(self):
        def program(rows, outputs=()):
            return Program(["a"], ["f"], rows, outputs=outputs)
        copies = program([("copy", "a", "a", "thaw", 1)] * 4)
        one, other = program([("watch", "p", "a", 1), ("watch", "q", "a", 1)]), program([("watch", "r", "a", 1)])
        self.assertEqual(len((one | other).readers()), 3)
        self.assert_join_error("many", (), one | other, program([("watch", "s", "a", 1)]))
        self.assert_join_error("many", (), copies, program([("copy", "a", "a", "thaw", 1)]))
        self.assert_join_error("many", (), program([("new", "a")] * 20), program([("new", "a")]))
        self.assertEqual(len((program([("new", "a")] * 19) | program([("new", "a")])).rows()), 20)
        many = program([("new", name) for name in "abcdef"])
        self.assert_join_error("many", (), many, program([("new", "g")]))

    def test_the_variables_of_the_outputs_of_the_first_do_not_count(self):
        one = Program(["a"], ["f"], [("new", "b")], outputs=["x", "y", "z"])
        other = Program(["a"], ["f"], [("move", "c", "d")], outputs=["e", "g"])
        self.assertEqual((one | other).variables(), ["a", "b", "c", "d", "e", "g"])


class EqualityTest(Checks, unittest.TestCase):
    def assert_unequal(self, one, other):
        self.assertIs(one == other, False)
        self.assertIs(other == one, False)
        self.assertIs(one != other, True)

    def test_equal(self):
        one = Program(["a", "b"], ["f", "g"], NINE, outputs=["b"])
        other = Program(("a", "b"), ("f", "g"), Program(["a"], ["f"], NINE).rows(), outputs=("b",))
        self.assertIs(one == other, True)
        self.assertIs(one != other, False)
        self.assertIs(one == one, True)

    def test_unequal(self):
        one = Program(["a", "b"], ["f", "g"], NINE, outputs=["b", "a"])
        self.assert_unequal(one, Program(["b", "a"], ["f", "g"], NINE, outputs=["b", "a"]))
        self.assert_unequal(one, Program(["a"], ["f", "g"], NINE, outputs=["b", "a"]))
        self.assert_unequal(one, Program(["a", "b"], ["g", "f"], NINE, outputs=["b", "a"]))
        self.assert_unequal(one, Program(["a", "b"], ["f"], NINE, outputs=["b", "a"]))
        self.assert_unequal(one, Program(["a", "b"], ["f", "g"], NINE, outputs=["a", "b"]))
        self.assert_unequal(one, Program(["a", "b"], ["f", "g"], NINE))
        self.assert_unequal(one, Program(["a", "b"], ["f", "g"], NINE[:-1], outputs=["b", "a"]))
        self.assert_unequal(one, Program(["a", "b"], ["f", "g"], NINE[::-1], outputs=["b", "a"]))

    def test_unequal_inside_rows(self):
        one = Program(["a"], ["f"], nest(3, [("copy", "a", "a", "thaw", 1)]))
        self.assert_unequal(one, Program(["a"], ["f"], nest(3, [("copy", "a", "a", "thaw", 2)])))
        self.assert_unequal(one, Program(["a"], ["f"], nest(3, [])))
        self.assert_unequal(Program(["a"], ["f"], [("empty", "a", [("new", "a")], [])]),
                            Program(["a"], ["f"], [("empty", "a", [], [("new", "a")])]))

    def test_a_program_equals_nothing_but_programs(self):
        program = Program(["b"], ["f"], [])
        for value in ALL + [HEAP, [], (("b",), ("f",), (), [])]:
            self.assert_unequal(program, value)


if __name__ == "__main__":
    unittest.main()
