"""Programs and heaps as texts (points 50 to 52)."""

import re
import unittest

from helpers import NINE, Checks, chain, nest, two
from oracle import chance_of, random_heap_parts, random_rows
from thawedwrites.errors import InvalidHeap, InvalidProgram, InvalidText
from thawedwrites.heaps import Heap
from thawedwrites.programs import Program
from thawedwrites.texts import heap_text, program_text, read_heap, read_program

HEAD = ["inputs x", "fields f g", "outputs"]
# Words of the texts themselves.
TAKEN = ["else", "inputs", "fields", "outputs", "none", "object", "name", "same", "empty", "look", "copy", "freeze"]
ROW = {
    "move": r"move W W", "none": r"none W", "new": r"new W", "look": r"look W W W", "put": r"put W W W",
    "copy": r"copy W W W N", "watch": r"watch W W N", "same": r"same W W", "empty": r"empty W", "else": r"else",
}


def as_pattern(text):
    return re.compile(text.replace("W", "[a-z]{1,8}").replace("N", "(0|[1-9][0-9]{0,2})"))


PATTERNS = {word: as_pattern(text) for word, text in ROW.items()}


def is_row_line(line):
    return any(pattern.fullmatch(line) for pattern in PATTERNS.values())


def wrong_line(text):
    """The number of the line that read_program() has to name, or None; each line is held against all before it."""
    lines = text.split("\n")
    waiting = []
    for number, line in enumerate(lines, 1):
        if number <= 3:
            if not as_pattern(("inputs", "fields", "outputs")[number - 1] + "( W)*").fullmatch(line):
                return number
            continue
        rest = line.lstrip(" ")
        indent = len(line) - len(rest)
        if not is_row_line(rest) or indent not in (0, 2, 4, 6):
            return number
        if number == 4 and indent:
            return number
        if number > 4:
            before = lines[number - 2]
            more = 2 if before.split()[0] in ("same", "empty", "else") else 0
            if indent > len(before) - len(before.lstrip(" ")) + more:
                return number
        # Each row that waits for its else has less indent, but for the one whose else this is.
        if rest == "else":
            if not waiting or waiting.pop() != indent:
                return number
        elif any(indent <= other for other in waiting):
            return number
        if rest.split()[0] in ("same", "empty"):
            waiting.append(indent)
    return len(lines) + 1 if waiting or len(lines) < 3 else None


class ProgramTextTest(Checks, unittest.TestCase):
    def assert_text(self, program, lines):
        text = program_text(program)
        self.assertIs(type(text), str)
        self.assertEqual(text.split("\n"), lines)
        self.assertEqual(read_program(text), program)
        self.assertIs(type(read_program(text)), Program)

    def test_the_examples_of_the_interface(self):
        program = Program(["x"], ["f"], [("empty", "x", [("new", "x")], []), ("none", "y")])
        self.assertEqual(program_text(program).split("\n"),
                         ["inputs x", "fields f", "outputs", "empty x", "  new x", "else", "none y"])
        with self.assertRaises(InvalidText) as caught:
            read_program("inputs x\nfields f\noutputs\nempty x")
        self.assertEqual(caught.exception.line, 5)

    def test_heads(self):
        self.assert_text(Program(["x"], ["f"], []), ["inputs x", "fields f", "outputs"])
        self.assert_text(Program(["x", "b", "a"], ["g", "f"], [], outputs=["c", "a", "d"]),
                         ["inputs x b a", "fields g f", "outputs c a d"])

    def test_each_kind_of_row(self):
        self.assert_text(Program(["a"], ["f"], NINE), [
            "inputs a", "fields f", "outputs",
            "move b a", "none a", "new a", "look b a f", "put a f b", "copy b a freeze 0", "watch r a 4",
            "same a b", "  new a", "else", "  none b", "  new b",
            "empty a", "  copy a b thaw 4", "else"])

    def test_nested_rows(self):
        inner = [("same", "a", "b", [("empty", "b", [], [("new", "c")]), ("none", "c")], [("empty", "a", [], [])])]
        self.assert_text(Program(["a"], ["f"], [("empty", "a", inner, inner), ("new", "a")]), [
            "inputs a", "fields f", "outputs", "empty a",
            "  same a b", "    empty b", "    else", "      new c", "    none c", "  else", "    empty a", "    else",
            "else",
            "  same a b", "    empty b", "    else", "      new c", "    none c", "  else", "    empty a", "    else",
            "new a"])
        self.assert_text(Program(["a"], ["f"], nest(3, [("empty", "a", [], [])])), [
            "inputs a", "fields f", "outputs", "empty a", "else", "  empty a", "  else", "    empty a", "    else",
            "      empty a", "      else"])

    def test_words_of_the_text_itself(self):
        for one in TAKEN:
            for other in TAKEN:
                rows = [("move", one, other), ("look", one, other, one), ("put", other, one, one), ("watch", one,
                                                                                                    other, 0),
                        ("copy", one, other, "thaw", 1), ("same", one, other, [("none", one)], [("new", other)]),
                        ("empty", one, [("new", one)], [])]
                fields = [one, other] if one != other else [one]
                program = Program(fields, fields, rows, outputs=fields[::-1])
                self.assertEqual(read_program(program_text(program)), program)

    def test_random_programs(self):
        for seed in range(200):
            chance = chance_of(seed)
            fields = chance.choice([["f"], ["g", "f"]])
            program = Program(["x", "y"], fields, random_rows(chance, fields, ["x", "y", "c"], 20),
                              outputs=chance.sample(["x", "c", "y"], chance.randint(0, 3)))
            self.assertEqual(read_program(program_text(program)), program)
            self.assertIs(wrong_line(program_text(program)), None)


class ReadProgramTest(Checks, unittest.TestCase):
    def assert_wrong(self, line, lines):
        with self.assertRaises(InvalidText, msg=repr(lines)) as caught:
            read_program("\n".join(lines))
        self.assertEqual(caught.exception.line, line, lines)
        self.assertEqual(wrong_line("\n".join(lines)), line, lines)

    def assert_rows(self, rows, lines):
        self.assertEqual(read_program("\n".join(HEAD + lines)), Program(["x"], ["f", "g"], rows))

    def assert_wrong_row(self, at, lines):
        """The row line at the index is wrong, whatever stands ahead of it and behind it."""
        self.assert_wrong(4 + at, HEAD + lines)
        self.assert_wrong(5 + at, HEAD + ["new x"] + lines)
        self.assert_wrong(4 + at, HEAD + lines + ["no row", "", "look"])

    def test_the_empty_text_and_texts_that_end_early(self):
        self.assert_wrong(1, [""])
        self.assert_wrong(2, ["inputs x"])
        self.assert_wrong(3, ["inputs x", "fields f"])
        self.assert_wrong(2, ["inputs x", ""])
        self.assert_wrong(3, ["inputs x", "fields f", ""])
        self.assert_wrong(4, ["inputs x", "fields f", "outputs", ""])
        self.assert_wrong(1, ["", "", ""])

    def test_the_first_three_lines(self):
        for at, head in enumerate(["inputs", "fields", "outputs"]):
            for line in ["", " ", "x", head[:-1], head + "s", head + " ", head + "  x", head + " x ", " " + head + " x",
                         head + " x  y", head.upper() + " x", head + " X", head + " x1", head + " abcdefghi",
                         head + " 1",
                         head + " x,y", head + " x-", head + "x", "new x", "else", head + " " + "a" * 9 + " b",
                         head + " _"]:
                self.assert_wrong(at + 1, HEAD[:at] + [line] + HEAD[at + 1:])
                self.assert_wrong(at + 1, HEAD[:at] + [line])
        self.assert_wrong(1, HEAD[::-1])
        self.assert_wrong(2, ["inputs x", "outputs", "fields f"])
        self.assert_wrong(1, ["fields f", "inputs x", "outputs"])

    def test_row_lines_without_a_right_form(self):
        for line in ["", " ", "  ", "row", "x", "News x", "NEW x", "new", "new ", "new x ", "new  x", "new x y",
                     "new X",
                     "new x1", "new 1", "new abcdefghi", "new x-", "else x", "else ", "els", "inputs x", "outputs",
                     "same x",
                     "same x y z", "same", "empty", "empty x y", "move x", "move x y z", "none", "none x y", "look x y",
                     "look x y f g", "put x f", "put x f y z", "copy x y freeze", "copy x y 1", "copy x y freeze 1 2",
                     "watch r x", "watch r x 1 1", "watch r x x", "watch 1 x 1", "copy x y 1 freeze", "new x,y",
                     "new\\x",
                     "same x y else", "put x f none 1", "object 1", "name x 1", "new 'x'", "Else"]:
            self.assert_wrong_row(0, [line])

    def test_depths(self):
        for word in ["", "00", "01", "0001", "1000", "9999", "1234", "-1", "+1", "1.0", "1a", "a", "x1", "freeze",
                     "012", "000",
                     "1 ", " 1", "0x1", "1_0"]:
            self.assert_wrong_row(0, ["copy x y freeze " + word])
            self.assert_wrong_row(0, ["watch r x " + word])
        for depth in range(5):
            self.assert_rows([("copy", "x", "y", "thaw", depth), ("watch", "r", "x", depth)],
                             [f"copy x y thaw {depth}", f"watch r x {depth}"])
        for word in ["5", "9", "10", "99", "100", "999"]:
            for line in ["copy x y freeze " + word, "watch r x " + word]:
                self.assert_program_text_error("name", (0,), HEAD + [line])

    def test_indents(self):
        for indent in range(1, 12):
            self.assert_wrong(4, HEAD + [" " * indent + "new x"])
            self.assert_wrong(5, HEAD + ["new x", " " * indent + "new x"])
            self.assert_wrong(4, HEAD + [" " * indent + "else"])
            if indent != 2:
                self.assert_wrong(5, HEAD + ["empty x", " " * indent + "new x", "else"])
                self.assert_wrong(6, HEAD + ["empty x", "  empty x", " " * indent + "else", "else"])
                self.assert_wrong(6, HEAD + ["empty x", "else", " " * indent + "new x"])
        self.assert_wrong(6, HEAD + ["empty x", "  new x", "    new x", "else"])
        self.assert_wrong(7, HEAD + ["empty x", "else", "  new x", "    new x"])
        self.assert_wrong(8, HEAD + ["empty x", "  empty x", "  else", "else", "    new x"])
        self.assert_wrong(9, HEAD + ["empty x", "  empty x", "  else", "    new x", "else", "    new x"])
        self.assert_wrong(5, HEAD + ["empty x", "\tnew x", "else"])
        # Not more than three rows around a row can be written.
        deep = ["empty x", "  empty x", "    empty x", "      empty x"]
        self.assert_wrong(8, HEAD + deep + ["        new x", "      else", "    else", "  else", "else"])
        self.assert_rows([("empty", "x", [("empty", "x", [("empty", "x", [("empty", "x", [], [])], [])], [])], [])],
                         deep + ["      else", "    else", "  else", "else"])
        self.assert_wrong(9, HEAD + deep + ["      else", "        new x", "    else", "  else", "else"])

    def test_the_second_rows_end_where_the_indent_does(self):
        rows = [("empty", "x", [("same", "x", "y", [], [("new", "x")]), ("none", "x")], [("new", "y"), ("empty", "y",
                                                                                                        [], [])]),
                ("empty", "x", [], [("empty", "x", [], [("new", "z")])]), ("none", "z")]
        self.assert_rows(rows, ["empty x", "  same x y", "  else", "    new x", "  none x", "else", "  new y",
                                "  empty y",
                                "  else", "empty x", "else", "  empty x", "  else", "    new z", "none z"])

    def test_else(self):
        self.assert_wrong_row(0, ["else"])
        self.assert_wrong(5, HEAD + ["new x", "else"])
        self.assert_wrong(6, HEAD + ["empty x", "else", "else"])
        self.assert_wrong(6, HEAD + ["empty x", "else", "  else"])
        self.assert_wrong(5, HEAD + ["empty x", "  else"])
        self.assert_wrong(6, HEAD + ["empty x", "  new x", "  else"])
        self.assert_wrong(7, HEAD + ["empty x", "  empty x", "  else", "  else", "else"])
        self.assert_wrong(7, HEAD + ["empty x", "else", "  new x", "else"])
        self.assert_wrong(7, HEAD + ["empty x", "else", "  new x", "  else"])
        self.assert_wrong(6, HEAD + ["empty x", "  empty x", "else", "else"])
        self.assert_wrong(8, HEAD + ["same x y", "  empty x", "  else", "    new x", "    else", "else"])
        self.assert_rows([("empty", "x", [], [])], ["empty x", "else"])

    def test_a_row_without_its_else(self):
        self.assert_wrong(5, HEAD + ["empty x"])
        self.assert_wrong(6, HEAD + ["same x y", "  new x"])
        self.assert_wrong(5, HEAD + ["empty x", "new x"])
        self.assert_wrong(6, HEAD + ["empty x", "  new x", "new x", "else"])
        self.assert_wrong(5, HEAD + ["empty x", "empty x", "else"])
        self.assert_wrong(6, HEAD + ["empty x", "  empty x", "  new x"])
        self.assert_wrong(7, HEAD + ["empty x", "  empty x", "  else"])
        self.assert_wrong(8, HEAD + ["empty x", "  empty x", "  else", "    new x"])
        self.assert_wrong(7, HEAD + ["empty x", "else", "  empty x"])
        self.assert_wrong(8, HEAD + ["empty x", "else", "  empty x", "    new x", "none x"])

    def test_an_empty_line_in_the_middle_and_at_the_end(self):
        lines = HEAD + ["empty x", "  new x", "else", "  new x", "new x"]
        for at in range(len(lines) + 1):
            self.assert_wrong(at + 1, lines[:at] + [""] + lines[at:])
        self.assert_wrong(len(lines) + 1, lines + ["", ""])

    def test_the_first_wrong_line_counts(self):
        self.assert_wrong(4, HEAD + ["new", "new", "  else"])
        self.assert_wrong(5, HEAD + ["empty x", "empty x", "new"])
        self.assert_wrong(2, ["inputs x", "field f", "outputs", "new"])

    def assert_program_text_error(self, part, place, lines):
        self.assertIs(wrong_line("\n".join(lines)), None)
        with self.assertRaises(InvalidProgram) as caught:
            read_program("\n".join(lines))
        self.assertEqual((caught.exception.part, caught.exception.place), (part, place))

    def test_the_errors_of_programs(self):
        for part, lines in [("inputs", ["inputs", "fields", "outputs"]), ("inputs", ["inputs x x", "fields f",
                                                                                     "outputs"]),
                            ("inputs", ["inputs a b c d", "fields f", "outputs"]), ("fields", ["inputs x", "fields",
                                                                                               "outputs"]),
                            ("fields", ["inputs x", "fields f f", "outputs"]), ("fields", ["inputs x", "fields f g h",
                                                                                           "outputs"]),
                            ("outputs", ["inputs x", "fields f", "outputs a a"]),
                            ("outputs", ["inputs x", "fields f", "outputs a b c d"])]:
            self.assert_program_text_error(part, (), lines)
        self.assert_program_text_error("name", (0,), HEAD + ["look x x h"])
        self.assert_program_text_error("name", (1, 1, 0), HEAD + ["new x", "empty x", "else", "  copy x x melt 1"])
        self.assert_program_text_error("reader", (1,), HEAD + ["watch r x 1", "watch r x 1"])
        self.assert_program_text_error("many", (), HEAD + ["new x"] * 21)
        self.assert_program_text_error("many", (), HEAD + ["copy x x thaw 0"] * 5)
        # A wrong line behind them comes first.
        self.assert_wrong(5, ["inputs x x", "fields", "outputs", "look x x h", "new"])

    def test_random_changes(self):
        found = set()
        for seed in range(600):
            chance = chance_of(seed)
            program = Program(["x"], ["f", "g"], random_rows(chance, ["f", "g"], ["x", "y"], 12))
            lines = program_text(program).split("\n")
            for _ in range(chance.choice([1, 1, 2])):
                at = chance.randrange(len(lines))
                lines[at:at + 1] = chance.choice([
                    [], [lines[at]] * 2, ["  " + lines[at]], [lines[at][2:]], [lines[at], "else"], [lines[at],
                                                                                                    "  else"],
                    [lines[at].replace("x", "")], [lines[at], "empty x"], [lines[at], "  empty x", "  else"],
                    [lines[at] + " x"], [" " + lines[at]], [lines[at], "    new x"]])
            if lines:
                text = "\n".join(lines)
                line = wrong_line(text)
                try:
                    self.assertEqual(program_text(read_program(text)), text)
                    self.assertIs(line, None)
                except InvalidProgram:
                    self.assertIs(line, None, lines)
                except InvalidText as error:
                    self.assertEqual(error.line, line, lines)
                found.add(line is None)
        self.assertEqual(found, {True, False})


class HeapTextTest(Checks, unittest.TestCase):
    def assert_text(self, heap, lines):
        text = heap_text(heap)
        self.assertIs(type(text), str)
        self.assertEqual(text.split("\n"), lines)
        self.assert_same_heap(read_heap(text), heap)

    def assert_same_heap(self, one, other):
        self.assertIs(type(one), Heap)
        self.assertEqual((one.fields, one.objects(), one.names()), (other.fields, other.objects(), other.names()))

    def test_heaps(self):
        self.assert_text(Heap(["f"], [], {}), ["fields f"])
        self.assert_text(Heap(["g", "f"], [], {"b": None, "a": None}), ["fields g f", "name a none", "name b none"])
        self.assert_text(Heap(["f", "g"], two([(1, None), (None, 0), (2, 2)]), {"z": 2, "ab": 0, "a": None}),
                         ["fields f g", "name a none", "name ab 0", "name z 2", "object 1 none", "object none 0",
                          "object 2 2"])
        # The numbers are the heap's own, not those of the normal form.
        self.assert_text(Heap(["f"], [{"f": 1}, {"f": None}, {"f": 0}], {"a": 2}),
                         ["fields f", "name a 2", "object 1", "object none", "object 0"])

    def test_the_values_follow_the_order_of_the_fields(self):
        objects = [{"f": 0, "g": None}]
        self.assert_text(Heap(["f", "g"], objects, {}), ["fields f g", "object 0 none"])
        self.assert_text(Heap(["g", "f"], objects, {}), ["fields g f", "object none 0"])

    def test_words_of_the_text_itself(self):
        for one in TAKEN:
            for other in TAKEN:
                fields = [one, other] if one != other else [one]
                heap = Heap(fields, [{field: 0 for field in fields}], {one: 0, other: None})
                self.assert_same_heap(read_heap(heap_text(heap)), heap)

    def test_200_objects(self):
        heap = Heap(["f"], chain(200), {"abcdefgh": 199})
        self.assert_same_heap(read_heap(heap_text(heap)), heap)
        self.assertEqual(heap_text(heap).split("\n")[199:], ["object 198", "object 199", "object none"])

    def test_random_heaps(self):
        for seed in range(200):
            chance = chance_of(seed)
            fields = chance.choice([["f"], ["f", "g"], ["g", "f"]])
            heap = Heap(fields, *random_heap_parts(chance, fields, chance.sample("abcdef", chance.randint(0, 6)), 12))
            self.assert_same_heap(read_heap(heap_text(heap)), heap)

    def assert_wrong(self, line, lines):
        with self.assertRaises(InvalidText, msg=repr(lines)) as caught:
            read_heap("\n".join(lines))
        self.assertEqual(caught.exception.line, line, lines)

    def test_the_first_line(self):
        for line in ["", " ", "f", "field f", "fields ", "fields  f", "fields f ", " fields f", "fields F", "fields 1",
                     "fields abcdefghi", "fieldsf", "Fields f", "name a 0", "object 0", "fields f,g", "fields f  g"]:
            self.assert_wrong(1, [line])
            self.assert_wrong(1, [line, "name a none", "object none"])

    def test_lines_without_a_right_form(self):
        for line in ["", " ", "x", "name", "name a", "name a ", "name  a 0", "name a 0 ", " name a 0", "name a 0 0",
                     "name A 0",
                     "name abcdefghi 0", "name 0 a", "name a b", "name a None", "name a x", "Name a 0", "names a 0",
                     "object",
                     "object ", "object 0 0", "object  0", "object 0 ", " object 0", "object None", "object x",
                     "Object 0",
                     "objects 0", "fields f", "else", "0", "none", "  object 0"]:
            for ahead in [[], ["name a 0"], ["name a 0", "name b none"]]:
                lines = ["fields f"] + ahead
                self.assert_wrong(len(lines) + 1, lines + [line])
                self.assert_wrong(len(lines) + 1, lines + [line, "object 0"])
                self.assert_wrong(len(lines) + 2, lines + ["object 0", line])

    def test_numbers(self):
        for word in ["00", "01", "000", "012", "1000", "0001", "-1", "+1", "1.0", "1a", "a1", "1_0", "0x1", "9999",
                     "nones"]:
            self.assert_wrong(2, ["fields f", "name a " + word])
            self.assert_wrong(2, ["fields f", "object " + word])
            self.assert_wrong(2, ["fields f g", "object none " + word])
        for word in ["10", "100", "999"]:
            self.assert_text_error("object", 0, ["fields f", "object " + word])
            self.assert_text_error("name", "a", ["fields f", "name a " + word, "object 0"])

    def test_as_many_values_as_fields(self):
        self.assert_wrong(3, ["fields f g", "object 0 0", "object 0"])
        self.assert_wrong(3, ["fields f g", "object 0 0", "object 0 0 0"])
        self.assert_wrong(2, ["fields", "object 0"])
        self.assert_wrong(2, ["fields f g h", "object 0 0"])

    def test_the_order_of_the_lines(self):
        self.assert_wrong(3, ["fields f", "name b none", "name a none"])
        self.assert_wrong(3, ["fields f", "name a none", "name a none"])
        self.assert_wrong(4, ["fields f", "name a none", "name c none", "name b none"])
        self.assert_wrong(3, ["fields f", "name ab none", "name a none"])
        self.assert_wrong(3, ["fields f", "object none", "name a none"])
        self.assert_wrong(4, ["fields f", "name a none", "object none", "name b none"])

    def test_an_empty_line(self):
        self.assert_wrong(1, [""])
        lines = ["fields f", "name a 0", "name b 0", "object 0", "object 1"]
        for at in range(len(lines) + 1):
            self.assert_wrong(at + 1, lines[:at] + [""] + lines[at:])

    def assert_text_error(self, part, where, lines):
        with self.assertRaises(InvalidHeap) as caught:
            read_heap("\n".join(lines))
        self.assertEqual((caught.exception.part, caught.exception.where), (part, where))

    def test_the_errors_of_heaps(self):
        self.assert_text_error("fields", None, ["fields"])
        self.assert_text_error("fields", None, ["fields", "object", "object"])
        self.assert_text_error("fields", None, ["fields f f", "object 0 0"])
        self.assert_text_error("fields", None, ["fields f g h", "object 0 0 9"])
        self.assert_text_error("objects", None, ["fields f"] + ["object none"] * 201)
        self.assert_text_error("object", 1, ["fields f", "name a 9", "object 1", "object 2"])
        self.assert_text_error("names", None, ["fields f"] + [f"name {name} none" for name in "abcdefg"])
        self.assert_text_error("name", "b", ["fields f", "name a none", "name b 1", "name c 2", "object 0"])
        # A wrong line behind them comes first.
        self.assert_wrong(3, ["fields f f", "object 9 9", "object"])


if __name__ == "__main__":
    unittest.main()
