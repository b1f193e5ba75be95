"""What several tests use."""

from thawedwrites.errors import (Hollow, InvalidArgument, InvalidFacts, InvalidHeap, InvalidProgram, InvalidText,
                                 LimitExceeded, Refused)
from thawedwrites.heaps import Heap
from thawedwrites.programs import Program

HEAP = Heap(["f"], [{"f": None}], {"a": 0})
PROGRAM = Program(["a"], ["f"], [("new", "a")])

# Values of every kind, none of which is an integer or a word.
NEITHER = [
    None, True, False, 0.0, 1.0, float("nan"), float("inf"), 1j, "", "A", "aB", "a1", "a b", " a", "a\n", "a_b",
    "\u00e4", "abcdefghi", "a" * 1000, b"a", b"", bytearray(b"a"), [], ["a"], (), ("a",), {}, {"a": 0}, set(), {"a"},
    frozenset(), frozenset({"a"}), range(2), slice(0, 1), object(), int, len, lambda: 0, iter([]), Ellipsis,
    NotImplemented, memoryview(b"a"), ValueError("a"), HEAP, PROGRAM, InvalidArgument("a"), InvalidHeap("name", "a"),
    InvalidProgram("form", ()), InvalidFacts("far"), InvalidText(1), LimitExceeded(2), Hollow("a"), Refused("a"),
]
INTEGERS = [0, 1, 4, -1, 10 ** 30]
WORDS = ["a", "z", "f", "abcdefgh"]
ALL = NEITHER + INTEGERS + WORDS

# A row of each form.
NINE = [
    ("move", "b", "a"),
    ("none", "a"),
    ("new", "a"),
    ("look", "b", "a", "f"),
    ("put", "a", "f", "b"),
    ("copy", "b", "a", "freeze", 0),
    ("watch", "r", "a", 4),
    ("same", "a", "b", [("new", "a")], [("none", "b"), ("new", "b")]),
    ("empty", "a", [("copy", "a", "b", "thaw", 4)], []),
]


def is_number(value, least, most):
    """True if the value is an integer from least to most."""
    return type(value) is int and least <= value <= most


def nest(depth, inner):
    """Rows in which the inner rows stand inside so many rows."""
    rows = inner
    for _ in range(depth):
        rows = [("empty", "a", [], rows)]
    return rows


class Checks:
    """Assertions that the test cases share."""

    def assert_heap_error(self, part, where, *args):
        with self.assertRaises(InvalidHeap, msg=repr(args)) as caught:
            Heap(*args)
        self.assertEqual((caught.exception.part, caught.exception.where), (part, where), args)
        self.assertIs(type(caught.exception.where), type(where))

    def assert_program_error(self, part, place, inputs, fields, rows, **more):
        with self.assertRaises(InvalidProgram, msg=repr((inputs, fields, rows, more))) as caught:
            Program(inputs, fields, rows, **more)
        self.assertEqual((caught.exception.part, caught.exception.place), (part, place), (inputs, fields, rows, more))
        self.assertIs(type(caught.exception.place), tuple)

    def assert_argument_error(self, part, function, *args):
        with self.assertRaises(InvalidArgument, msg=repr(args)) as caught:
            function(*args)
        self.assertEqual(caught.exception.part, part)
