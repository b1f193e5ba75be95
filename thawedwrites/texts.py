"""Texts: programs and heaps written as lines of words, and read again."""

from thawedwrites.errors import InvalidText
from thawedwrites.heaps import Heap
from thawedwrites.programs import Program
from thawedwrites.rows import FORMS, branches
from thawedwrites.words import is_word

# The first words of the lines ahead of the rows of a program.
HEADS = ("inputs", "fields", "outputs")
INDENTS = (0, 2, 4, 6)
MOST_DIGITS = 3


def program_text(program):
    """The program as a text."""
    heads = [words_line(head, words) for head, words in zip(HEADS, (program.inputs, program.fields, program.outputs))]
    return "\n".join(heads + row_lines(program.rows(), ""))


def heap_text(heap):
    """The heap as a text, with its own numbers."""
    names = heap.names()
    lines = [words_line("fields", heap.fields)]
    lines.extend([words_line("name", [name, value_word(names[name])]) for name in sorted(names)])
    for one in heap.objects():
        lines.append(words_line("object", [value_word(one[field]) for field in heap.fields]))
    return "\n".join(lines)


def read_program(text):
    """The program that the text tells."""
    lines = text.split("\n")
    heads = []
    for at, head in enumerate(HEADS):
        if at == len(lines) or not is_words_line(lines[at], head):
            raise InvalidText(at + 1)
        heads.append(lines[at].split(" ")[1:])
    reader = RowReader()
    for at in range(len(HEADS), len(lines)):
        if not reader.take(lines[at]):
            raise InvalidText(at + 1)
    if not reader.is_whole():
        raise InvalidText(len(lines) + 1)
    inputs, fields, outputs = heads
    return Program(inputs, fields, reader.found, outputs=outputs)


def read_heap(text):
    """The heap that the text tells."""
    lines = text.split("\n")
    if not is_words_line(lines[0], "fields"):
        raise InvalidText(1)
    fields = lines[0].split(" ")[1:]
    names = {}
    objects = []
    for at, line in enumerate(lines[1:]):
        words = line.split(" ")
        if is_object_line(words, len(fields)):
            objects.append({field: value_of(word) for field, word in zip(fields, words[1:])})
        elif is_name_line(words) and not objects and all([name < words[1] for name in names]):
            names[words[1]] = value_of(words[2])
        else:
            raise InvalidText(at + 2)
    return Heap(fields, objects, names)


class RowReader:
    """Takes the lines of the rows of a program, one after the other."""

    def __init__(self):
        self.found = []
        # The same and empty rows around the next line, the outermost first: the indent of each, the list that its
        # next row belongs to, and its second rows while its else line is still to come, otherwise None.
        self._around = []
        # The most spaces with which the next line may begin.
        self._most = 0

    def take(self, line):
        """True if the line has the right form with the lines before it."""
        rest = line.lstrip(" ")
        indent = len(line) - len(rest)
        if indent not in INDENTS or indent > self._most:
            return False
        self._leave(indent)
        if rest == "else":
            return self._take_else(indent)
        row = row_of(rest.split(" "))
        if row is None or (self._around and indent <= self._around[-1][0]):
            return False
        rows = self._around[-1][1] if self._around else self.found
        rows.append(row)
        self._most = indent
        if branches(row):
            first, second = branches(row)
            self._around.append((indent, first, second))
            self._most = indent + 2
        return True

    def is_whole(self):
        """True if no row still waits for its else line."""
        return all([second is None for _, _, second in self._around])

    def _leave(self, indent):
        """Leaves the second rows that end ahead of a line with this indent."""
        while self._around and self._around[-1][2] is None and indent <= self._around[-1][0]:
            self._around.pop()

    def _take_else(self, indent):
        # Rows with as much indent whose else line is behind were left.
        if not self._around or indent != self._around[-1][0]:
            return False
        _, _, second = self._around.pop()
        self._around.append((indent, second, None))
        self._most = indent + 2
        return True


def words_line(head, words):
    """The line of the head and the words."""
    return " ".join([head] + list(words))


def row_lines(rows, indent):
    """The lines of the rows, with the indent ahead of each."""
    lines = []
    for row in rows:
        lists = branches(row)
        parts = row[:len(row) - len(lists)]
        lines.append(indent + " ".join([str(part) for part in parts]))
        if lists:
            first, second = lists
            lines.extend(row_lines(first, indent + "  ") + [indent + "else"] + row_lines(second, indent + "  "))
    return lines


def is_words_line(line, head):
    """True if the line is the head and any number of words."""
    words = line.split(" ")
    return words[0] == head and all([is_word(word) for word in words[1:]])


def row_of(words):
    """The row of these words, with no rows inside it, or None if they are none."""
    if words[0] not in FORMS:
        return None
    roles = [role for role in FORMS[words[0]] if role != "rows"]
    if len(words) != len(roles) + 1 or not all([is_part(word, role) for word, role in zip(words[1:], roles)]):
        return None
    parts = [int(word) if role == "depth" else word for word, role in zip(words[1:], roles)]
    lists = [[] for role in FORMS[words[0]] if role == "rows"]
    return tuple(words[:1] + parts + lists)


def is_part(word, role):
    """True if the word may stand for a part of a row with this role."""
    return is_digits(word) if role == "depth" else is_word(word)


def is_digits(word):
    """True if the word is a number from 0 to 999 in digits, without a 0 ahead of others."""
    if not 1 <= len(word) <= MOST_DIGITS or not all(["0" <= letter <= "9" for letter in word]):
        return False
    return word == "0" or word[0] != "0"


def is_object_line(words, many):
    """True if the words are those of a line of an object with so many fields."""
    return words[0] == "object" and len(words) == many + 1 and all([is_value(word) for word in words[1:]])


def is_name_line(words):
    """True if the words are those of a line of a name."""
    return words[0] == "name" and len(words) == 3 and is_word(words[1]) and is_value(words[2])


def is_value(word):
    """True if the word is what a name or a field can hold."""
    return word == "none" or is_digits(word)


def value_of(word):
    """The number that the word tells, or None."""
    return None if word == "none" else int(word)


def value_word(value):
    """The word of an object's number or of None."""
    return "none" if value is None else str(value)
