"""What several tests use."""

from thawedwrites.errors import (Hollow, InvalidArgument, InvalidFacts, InvalidHeap, InvalidProgram, InvalidText,
                                 LimitExceeded, Refused)
from thawedwrites.facts import Facts
from thawedwrites.heaps import Heap
from thawedwrites.live import Live
from thawedwrites.programs import Program
from thawedwrites.runs import Run

HEAP = Heap(["f"], [{"f": None}], {"a": 0})
PROGRAM = Program(["a"], ["f"], [("new", "a")])
FACTS = Facts(["f"], {"a": 0}, {})

# Values of every kind, none of which is an integer or a word.
NEITHER = [
    None, True, False, 0.0, 1.0, float("nan"), float("inf"), 1j, "", "A", "aB", "a1", "a b", " a", "a\n", "a_b",
    "\u00e4", "abcdefghi", "a" * 1000, b"a", b"", bytearray(b"a"), [], ["a"], (), ("a",), {}, {"a": 0}, set(), {"a"},
    frozenset(), frozenset({"a"}), range(2), slice(0, 1), object(), int, len, lambda: 0, iter([]), Ellipsis,
    NotImplemented, memoryview(b"a"), ValueError("a"), HEAP, PROGRAM, FACTS, Run(PROGRAM, HEAP), Live(HEAP),
    InvalidArgument("a"), InvalidHeap("name", "a"), InvalidProgram("form", ()), InvalidFacts("far"), InvalidText(1),
    LimitExceeded(2), Hollow("a"), Refused("a"),
]
INTEGERS = [0, 1, 4, -1, 10 ** 30]
WORDS = ["a", "z", "f", "abcdefgh"]
ALL = NEITHER + INTEGERS + WORDS

# A row of each form.
NINE = [
    ("move", "b", "a"),
    ("none", "a"),
    ("new", "a"),
    ("look", "b", "a", "f"),
    ("put", "a", "f", "b"),
    ("copy", "b", "a", "freeze", 0),
    ("watch", "r", "a", 4),
    ("same", "a", "b", [("new", "a")], [("none", "b"), ("new", "b")]),
    ("empty", "a", [("copy", "a", "b", "thaw", 4)], []),
]

# Rows of which a program with the inputs x, y and z and the fields f and g has just so many stories.
ROWS_2000 = [("empty", "x",
              [("empty", "y", [], [("empty", "z", [("look", "b", "y", "f"), ("look", "c", "y", "g"),
                                                   ("look", "c", "b", "f")],
                                    [("look", "b", "y", "f"), ("look", "b", "z", "f")])])],
              [("look", "b", "y", "f"), ("look", "b", "y", "g"), ("look", "b", "x", "f"), ("look", "b", "x", "g")])]
ROWS_2001 = [("empty", "x",
              [("look", "c", "z", "g"), ("look", "b", "z", "f")],
              [("look", "b", "x", "g"), ("look", "b", "z", "f"), ("look", "b", "x", "f"), ("look", "c", "z", "g")])]

# Looks that are never hollow. With the inputs a, b and c and the fields f and g, a program of them has 1,251 stories.
GUARDED = [("empty", name, [], [("look", "v", name, field)]) for name, field in [("a", "f"), ("b", "f"), ("c", "f"),
                                                                                ("a", "g")]]
FIFTH = ("empty", "b", [], [("look", "v", "b", "g")])
# The reader looks at a and at what is two fields away from it.
READ = [("watch", "r", "a", 2), ("put", "b", "f", "c")]


def three_inputs(rows, ahead=()):
    """The program with these rows; rows ahead that look at nothing do not change how many stories there are."""
    return Program(["x", "y", "z"], ["f", "g"], list(ahead) + rows)


def is_number(value, least, most):
    """True if the value is an integer from least to most."""
    return type(value) is int and least <= value <= most


def nest(depth, inner):
    """Rows in which the inner rows stand inside so many rows."""
    rows = inner
    for _ in range(depth):
        rows = [("empty", "a", [], rows)]
    return rows


def chain(many):
    """Objects with the field f of which each one holds the next one."""
    return [{"f": at + 1 if at + 1 < many else None} for at in range(many)]


def two(pairs):
    """Objects with the fields f and g."""
    return [{"f": f, "g": g} for f, g in pairs]


def run_of(rows, objects, names):
    """The run of the rows on a heap with these objects and names, which are the inputs."""
    fields = list(objects[0]) if objects else ["f"]
    return Run(Program(sorted(names), fields, rows), Heap(fields, objects, names))


def live_of(objects, names):
    """A live of a heap with these objects and names."""
    return Live(Heap(list(objects[0]) if objects else ["f"], objects, names))


def state(live):
    """All that can be seen of a live with the variables a to e and one field f."""
    cells = [live[name, "f"] if live.value(name) != ("none",) else None for name in "abcde"]
    behind = live.behind(list("abcde"))
    return ([live.value(name) for name in "abcde"], cells, live.made(), live.reached(), behind.objects(),
            behind.names())


class Checks:
    """Assertions that the test cases share."""

    def assert_heap_error(self, part, where, *args):
        with self.assertRaises(InvalidHeap, msg=repr(args)) as caught:
            Heap(*args)
        self.assertEqual((caught.exception.part, caught.exception.where), (part, where), args)
        self.assertIs(type(caught.exception.where), type(where))

    def assert_program_error(self, part, place, inputs, fields, rows, **more):
        with self.assertRaises(InvalidProgram, msg=repr((inputs, fields, rows, more))) as caught:
            Program(inputs, fields, rows, **more)
        self.assertEqual((caught.exception.part, caught.exception.place), (part, place), (inputs, fields, rows, more))
        self.assertIs(type(caught.exception.place), tuple)

    def assert_facts_error(self, part, *args):
        with self.assertRaises(InvalidFacts, msg=repr(args)) as caught:
            Facts(*args)
        self.assertEqual(caught.exception.part, part, args)

    def assert_stopped(self, error, name, function, *args, **more):
        with self.assertRaises(error, msg=repr(args)) as caught:
            function(*args, **more)
        self.assertIs(type(caught.exception), error)
        self.assertEqual(caught.exception.name, name)

    def assert_limit(self, limit, function, *args, **more):
        with self.assertRaises(LimitExceeded, msg=repr((args, more))) as caught:
            function(*args, **more)
        self.assertEqual(caught.exception.limit, limit)

    def assert_argument_error(self, part, function, *args, **more):
        with self.assertRaises(InvalidArgument, msg=repr((args, more))) as caught:
            function(*args, **more)
        self.assertEqual(caught.exception.part, part)
