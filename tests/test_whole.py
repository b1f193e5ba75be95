"""What the document promises over the whole program (points 1 to 5), for the modules of all stages."""

import ast
import copy
import pathlib
import unittest

from helpers import ALL, ROWS_2001, Checks, is_number, three_inputs, two
from thawedwrites.alike import ends_alike
from thawedwrites.depths import is_safe, least_depths, needless
from thawedwrites.desk import Desk
from thawedwrites.errors import InvalidFacts, InvalidHeap, InvalidProgram, LimitExceeded, ThawError
from thawedwrites.facts import Facts
from thawedwrites.heaps import Heap
from thawedwrites.live import Live
from thawedwrites.most import most_heap, most_made
from thawedwrites.programs import Program
from thawedwrites.reaches import hollows, is_listed, never, refusals, witness
from thawedwrites.runs import Run
from thawedwrites.stories import stories, story_of
from thawedwrites.texts import heap_text, program_text, read_heap, read_program

FOLDER = pathlib.Path(__file__).resolve().parent.parent / "thawedwrites"
ROWS = [("copy", "c", "x", "freeze", 1), ("watch", "r", "c", 1),
        ("same", "x", "y", [("look", "y", "x", "f")], [("new", "n")]), ("put", "y", "f", "x")]
# Everything is one word: inputs, fields, readers and variables.
ONE_WORD = Program(["f"], ["f"], [("watch", "f", "f", 1), ("put", "f", "f", "f")], outputs=["f"])


def program(rows=None):
    return Program(["x", "y"], ["f", "g"], ROWS if rows is None else rows, outputs=["n"])


def heap():
    return Heap(["f", "g"], two([(1, None), (0, 1)]), {"x": 0, "y": 1})


def told(value):
    """What a heap, a program or facts tell, or the value itself."""
    if isinstance(value, Heap):
        return value.fields, value.objects(), value.names()
    if isinstance(value, Program):
        return value.inputs, value.fields, value.rows(), value.outputs
    if isinstance(value, Facts):
        return value.fields, value.names(), value.edges()
    if isinstance(value, (list, tuple)):
        return type(value)(told(item) for item in value)
    return value


def calls():
    """Each function of the package with arguments, as callables that return what it returns and the arguments."""
    lists = [
        (stories, program()), (story_of, program(), heap()), (never, program()), (witness, program(), (3,), "r"),
        (refusals, program()), (hollows, program()), (is_listed, program(), stories(program())),
        (is_safe, program(), [2]), (least_depths, program()), (needless, program()), (ends_alike, program(),
                                                                                      program([])),
        (most_made, program()), (most_heap, program()), (program_text, program()), (heap_text, heap()),
        (read_program, program_text(program())), (read_heap, heap_text(heap())),
        (program().with_depths, [3]), (program().__or__, program([])), (Run, program(), heap()), (Live, heap()),
        (Live(heap()).trial, [("copy", "a", "x", "thaw", 2), ("put", "a", "f", "y"), ("look", "b", "n", "f")]),
        (Live(heap()).attempt, [("copy", "a", "x", "thaw", 2), ("put", "a", "f", "y")]), (Live(heap()).behind, ["x",
                                                                                                                "z"]),
        (Desk, program()), (Desk(program()), heap()), (Desk(program()).insert, (2, 0, 1), ("empty", "x", [("new",
                                                                                                           "y")], [])),
        (Desk(program()).__setitem__, (2,), ("empty", "x", [("new", "y")], [])), (Desk(program()).delete, (2,)),
        (Heap, ["f"], [{"f": 0}], {"a": 0}), (Program, ["x"], ["f"], copy.deepcopy(ROWS)[:2]),
        (Facts, ["f"], {"x": 5}, {(5, "f"): 7}), (heap().at, "x", ["f", "g"]),
        (Facts(["f"], {"x": 5}, {(5, "f"): 7}).told, "x", ("f",)),
    ]
    return [(function, list(args)) for function, *args in lists]


class WholeTest(Checks, unittest.TestCase):
    def test_the_package_imports_nothing_from_outside(self):
        for path in FOLDER.glob("*.py"):
            for node in ast.walk(ast.parse(path.read_text())):
                self.assertNotIsInstance(node, ast.Import)
                if isinstance(node, ast.ImportFrom):
                    self.assertTrue(node.module.startswith("thawedwrites."))

    def test_no_argument_is_changed(self):
        for function, args in calls():
            before = copy.deepcopy([told(value) for value in args])
            function(*args)
            self.assertEqual([told(value) for value in args], before, function)

    def test_the_same_call_gives_the_same(self):
        for (function, args), (again, others) in zip(calls(), calls()):
            one, other = function(*args), again(*others)
            if not isinstance(one, (Run, Live, Desk)):
                self.assertEqual(told(one), told(other))

    def test_objects_copy_their_arguments(self):
        fields, objects, names = ["f"], [{"f": 0}], {"a": 0}
        built = Heap(fields, objects, names)
        fields.append("g")
        objects[0]["f"] = None
        objects.append({})
        names["b"] = 0
        self.assertEqual(told(built), (("f",), [{"f": 0}], {"a": 0}))
        inputs, fields, outputs, inner = ["x"], ["f"], ["y"], [("new", "y")]
        rows = [("empty", "x", inner, [("same", "x", "x", inner, [])])]
        whole = Program(inputs, fields, rows, outputs=outputs)
        for one in (inputs, fields, outputs, inner, rows):
            one.clear()
        new = [("new", "y")]
        self.assertEqual(told(whole), (("x",), ("f",), [("empty", "x", new, [("same", "x", "x", new, [])])], ("y",)))
        self.assertEqual(len(stories(whole)), 2)
        fields, names, edges = ["f"], {"x": 4}, {(4, "f"): 4}
        facts = Facts(fields, names, edges)
        for one in (fields, names, edges):
            one.clear()
        self.assertEqual(told(facts), (("f",), {"x": 0}, {(0, "f"): 0}))

    def test_returned_lists_and_dicts_are_new(self):
        whole, start, facts = program(), heap(), stories(program())[-1][0]
        live, desk, run = Live(start), Desk(whole), Run(whole, start)
        desk.insert((4,), ("put", "x", "f", "y"))
        desk.delete((3,))
        live.do(("watch", "r", "x", 1))
        live.do(("put", "x", "f", "y"))
        for function in [whole.rows, whole.places, whole.copies, whole.writes, whole.readers, whole.variables,
                         start.objects,
                         start.names, lambda: start.parts("x", 1), facts.names, facts.edges, live.reached,
                         lambda: live.trial([])[2], run.reached, run.looks, desk.stories, desk.turns,
                         lambda: stories(whole), lambda: stories(whole)[-1][3], lambda: stories(whole)[-1][4],
                         lambda: story_of(whole, start)[4], lambda: refusals(whole), lambda: hollows(whole),
                         lambda: least_depths(whole), lambda: needless(whole), lambda: whole.row((2,))[3]]:
            before = copy.copy(function())
            function().clear()
            self.assertEqual(function(), before)

    def test_the_order_of_keys_means_nothing(self):
        one = Heap(["f", "g"], [{"f": 0, "g": 1}, {"f": None, "g": 0}], {"a": 0, "b": 1})
        other = Heap(["f", "g"], [{"g": 1, "f": 0}, {"g": 0, "f": None}], {"b": 1, "a": 0})
        self.assertEqual((one, heap_text(one)), (other, heap_text(other)))
        self.assertEqual(one.normal().objects(), other.normal().objects())
        self.assertEqual(read_heap(heap_text(one)), other)
        whole = Program(["b", "a"], ["f", "g"], [("watch", "r", "a", 1), ("look", "a", "b", "g"), ("put", "a", "f",
                                                                                                   "b")])
        self.assertEqual(story_of(whole, one), story_of(whole, other))
        self.assertEqual(Run(whole, one).behind(), Run(whole, other).behind())
        facts = story_of(whole, one)[0]
        turned = Facts(facts.fields, dict(reversed(facts.names().items())), dict(reversed(facts.edges().items())))
        self.assertEqual(facts, turned)
        self.assertTrue(is_listed(whole, [(Facts(story[0].fields, dict(reversed(story[0].names().items())),
                                                 dict(reversed(story[0].edges().items()))), *story[1:])
                                          for story in stories(whole)]))

    def test_true_and_false_are_no_integers(self):
        for wrong in (True, False):
            for call, error in [
                    (lambda: Heap(["f"], [{"f": wrong}] * 2, {}), InvalidHeap),
                    (lambda: Heap(["f"], [{"f": 0}] * 2, {"a": wrong}), InvalidHeap),
                    (lambda: Program(["x"], ["f"], [("watch", "r", "x", wrong)]), InvalidProgram),
                    (lambda: Program(["x"], ["f"], [("copy", "x", "x", "thaw", wrong)]), InvalidProgram),
                    (lambda: Facts(["f"], {"x": wrong}, {}), InvalidFacts),
                    (lambda: Facts(["f"], {"x": 0}, {(0, "f"): wrong}), InvalidFacts),
                    (lambda: Facts(["f"], {"x": 0}, {(wrong, "f"): 0}), InvalidFacts)]:
                with self.assertRaises(error):
                    call()
            rows = [("empty", "x", [("put", "x", "f", "x")], [("put", "x", "f", "x")]), ("put", "x", "f", "x"),
                    ("watch", "r", "x", 1), ("copy", "c", "x", "thaw", 1)]
            whole = Program(["x"], ["f"], rows)
            desk = Desk(whole)
            for place in [(wrong,), (0, wrong, 0), (0, int(wrong), False)]:
                self.assert_argument_error("place", whole.row, place)
                self.assert_argument_error("place", witness, whole, place, "r")
                self.assert_argument_error("place", desk.__getitem__, place)
                self.assert_argument_error("place", desk.__setitem__, place, ("new", "x"))
                self.assert_argument_error("place", desk.insert, place, ("new", "x"))
                self.assert_argument_error("place", desk.delete, place)
            self.assert_argument_error("depths", whole.with_depths, [wrong])
            self.assert_argument_error("depths", is_safe, whole, [wrong])
            self.assert_argument_error("most", least_depths, whole, most=wrong)
            self.assert_argument_error("depth", heap().parts, "x", wrong)
            self.assert_argument_error("row", Live(heap()).watch, "r", "x", depth=wrong)

    def test_errors_come_from_left_to_right_and_the_limit_last(self):
        many = three_inputs(ROWS_2001, [("new", "a"), ("watch", "r", "a", 1), ("put", "a", "f", "a")])
        for place in [(0,), (9,)] + ALL:
            for reader in ["s", None]:
                self.assert_argument_error("place", witness, many, place, reader)
        for reader in ["s"] + ALL:
            if reader != "r":
                self.assert_argument_error("reader", witness, many, (2,), reader)
        self.assert_limit(2000, witness, many, (2,), "r")
        for value in ALL:
            if not is_number(value, 0, 4):
                self.assert_argument_error("most", least_depths, many, most=value)
            self.assert_argument_error("depths", is_safe, many, value if value not in ([], ()) else None)
        self.assert_argument_error("other", ends_alike, many, ONE_WORD)
        for function in (stories, never, refusals, hollows, least_depths, needless, most_made, most_heap, Desk):
            self.assert_limit(2000, function, many)
        self.assert_limit(2000, is_safe, many, [])
        self.assert_limit(2000, ends_alike, many, many)

    def test_all_errors_derive_from_thaw_error_and_value_error(self):
        for call in [lambda: stories(three_inputs(ROWS_2001)), lambda: read_heap(""), lambda: read_program(""),
                     lambda: Desk(ONE_WORD)[()], lambda: ends_alike(ONE_WORD, program())]:
            with self.assertRaises(ThawError) as caught:
                call()
            self.assertIsInstance(caught.exception, ValueError)
        with self.assertRaises(LimitExceeded) as caught:
            stories(three_inputs(ROWS_2001))
        self.assertEqual(caught.exception.limit, 2000)

    def test_a_variable_a_field_and_a_reader_may_be_the_same_word(self):
        pair = [((1,), "f")]
        self.assertEqual([story[1:] for story in stories(ONE_WORD)], [("hollow", (1,), [], []), ("done", None, pair,
                                                                                                 pair)])
        self.assertIn(((1,), "f"), Run(ONE_WORD, witness(ONE_WORD, (1,), "f")).reached())
        self.assertEqual(read_program(program_text(ONE_WORD)), ONE_WORD)
        self.assertIs(ends_alike(ONE_WORD, ONE_WORD), None)
        self.assertEqual((most_made(ONE_WORD), least_depths(ONE_WORD), needless(ONE_WORD)), (0, [], []))
        self.assertEqual(Desk(ONE_WORD).stories(), stories(ONE_WORD))

    def test_words_are_of_1_to_8_letters(self):
        for word in ["a", "abcdefgh"]:
            whole = Program([word], [word], [("watch", word, word, 1), ("put", word, word, word)])
            self.assertEqual(read_program(program_text(whole)), whole)
            self.assertEqual(stories(whole)[1][4], [((1,), word)])
        for word in ["", "abcdefghi", "A", "a1", "a b", "\u00e4", "a\n"]:
            with self.assertRaises(InvalidProgram):
                Program([word], ["f"], [])
            desk = Desk(ONE_WORD)
            with self.assertRaises(InvalidProgram):
                desk[(1,)] = ("new", word)
            self.assertEqual(desk.current(), ONE_WORD)

    def test_ascending_words_are_compared_as_strings(self):
        rows = [("watch", "b", "x", 1), ("watch", "ab", "x", 1), ("watch", "abc", "x", 1), ("put", "x", "f", "x")]
        pairs = [((3,), "ab"), ((3,), "abc"), ((3,), "b")]
        self.assertEqual(stories(Program(["x"], ["f"], rows))[1][3:], (pairs, pairs))
        whole = Heap(["f"], [], {"b": None, "abc": None, "ab": None})
        self.assertEqual(heap_text(whole), "fields f\nname ab none\nname abc none\nname b none")

    def test_the_order_of_the_fields_matters(self):
        rows = [("look", "a", "x", "f"), ("look", "b", "x", "g")]
        one, other = Program(["x"], ["f", "g"], rows), Program(["x"], ["g", "f"], rows)
        self.assertNotEqual(one, other)
        self.assert_argument_error("other", ends_alike, one, other)
        self.assertIs(is_listed(one, stories(other)), False)
        self.assertIs(is_listed(one, stories(one)), True)
        mine, its = (Heap(fields, two([(None, 0)]), {"x": 0}) for fields in (["f", "g"], ["g", "f"]))
        self.assert_argument_error("heap", story_of, one, its)
        self.assert_argument_error("heap", Desk(other), mine)
        self.assertEqual([mine in story_of(one, mine)[0], its in story_of(one, mine)[0]], [True, False])
        self.assertNotEqual(program_text(one), program_text(other))
        self.assertNotEqual(heap_text(mine), heap_text(its))

    def test_fields_may_be_a_list_or_a_tuple(self):
        for kind in (list, tuple):
            whole = Program(kind(["x"]), kind(["f", "g"]), [], outputs=kind(["x"]))
            built = Heap(kind(["f", "g"]), [], {"x": None})
            facts = Facts(kind(["f", "g"]), {"x": None}, {})
            for one in (whole, built, facts, most_heap(whole), read_heap(heap_text(built)), stories(whole)[0][0],
                        read_program(program_text(whole)), Desk(whole).current()):
                self.assertEqual(one.fields, ("f", "g"))
                self.assertIs(type(one.fields), tuple)
            self.assertEqual(story_of(whole, built)[0], facts)


if __name__ == "__main__":
    unittest.main()
