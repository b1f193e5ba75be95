"""Objects by hand: rows that are done one at a time, or tried out."""

from thawedwrites.errors import Hollow, InvalidArgument, Refused
from thawedwrites.heaps import MOST_NAMES, Heap
from thawedwrites.machine import MOST_STARTS, Machine
from thawedwrites.rows import branches, has_form, has_names
from thawedwrites.words import are_words, is_one_of, is_word


class Live:
    """Variables and objects as a run has them, at first those of a heap."""

    def __init__(self, heap):
        if not isinstance(heap, Heap) or len(heap) > MOST_STARTS:
            raise InvalidArgument("heap")
        self._machine = Machine(heap.fields, heap.objects(), heap.names())

    def __getitem__(self, key):
        if not is_key(key, self._machine.fields):
            raise InvalidArgument("key")
        name, field = key
        number = self._machine.held(name)
        if number is None:
            raise Hollow(name)
        return self._machine.value(self._machine.field_held(number, field))

    def __setitem__(self, key, value):
        if not is_key(key, self._machine.fields):
            raise InvalidArgument("key")
        if not is_word(value):
            raise InvalidArgument("value")
        self.do(("put", key[0], key[1], value))

    def __iter__(self):
        raise TypeError("a live is not iterated over")

    def do(self, row):
        """Does one plain row."""
        if not self._can_take([row]):
            raise InvalidArgument("row")
        raise_unless_done(self._machine.do(row), row)

    def duplicate(self, x, y, *, kind="freeze", depth=1):
        """Lets x hold a copy of what y holds."""
        self.do(("copy", x, y, kind, depth))

    def watch(self, reader, x, *, depth=1):
        """Tells the reader what x holds."""
        self.do(("watch", reader, x, depth))

    def value(self, name):
        """What the variable holds: ("none",), ("start", n) or ("own", k, frozen)."""
        if not is_word(name):
            raise InvalidArgument("name")
        return self._machine.value(self._machine.held(name))

    def is_same(self, x, y):
        """True if both variables hold the same object or both hold None."""
        if not is_word(x):
            raise InvalidArgument("x")
        if not is_word(y):
            raise InvalidArgument("y")
        return self._machine.held(x) == self._machine.held(y)

    def made(self):
        """How many own objects were made."""
        return self._machine.made()

    def reached(self):
        """The ascending pairs (k, reader): the put row number k reached the reader."""
        return self._machine.reached()

    def behind(self, names):
        """The heap, in normal form, of these variables and all objects that they come to."""
        if not are_words(names, 0, MOST_NAMES):
            raise InvalidArgument("names")
        return self._machine.behind(names)

    def trial(self, rows):
        """Does the rows as far as they can be done, takes all back, and tells how it went."""
        if not isinstance(rows, list) or not self._can_take(rows):
            raise InvalidArgument("rows")
        self._machine.begin()
        word, index = self._do_all(rows)
        reached = self._machine.reached()
        self._machine.take_back()
        return word, index, reached

    def attempt(self, rows):
        """Does all the rows and returns their number, or does nothing and raises an error."""
        if not isinstance(rows, list) or not self._can_take(rows):
            raise InvalidArgument("rows")
        self._machine.begin()
        word, index = self._do_all(rows)
        if word == "done":
            self._machine.keep()
        else:
            self._machine.take_back()
            raise_unless_done(word, rows[index])
        return len(rows)

    def _can_take(self, rows):
        """True if all rows are plain and tell only readers that are not told yet, each once."""
        if not all([is_plain(row, self._machine.fields) for row in rows]):
            return False
        readers = [row[1] for row in rows if row[0] == "watch"]
        if any([self._machine.is_told(reader) for reader in readers]):
            return False
        return len(set(readers)) == len(readers)

    def _do_all(self, rows):
        """Does the rows up to the first that cannot be done; returns its word and index."""
        for index, row in enumerate(rows):
            word = self._machine.do(row)
            if word != "done":
                return word, index
        return "done", None


def is_plain(row, fields):
    """True if the value is a row with these fields and has no place for rows inside."""
    return has_form(row) and has_names(row, fields) and not branches(row)


def is_key(key, fields):
    """True if the value is a pair of a word and one of the fields."""
    return isinstance(key, tuple) and len(key) == 2 and is_word(key[0]) and is_one_of(key[1], fields)


def raise_unless_done(word, row):
    """Raises the error of a look or put row that could not be done."""
    name = row[2] if row[0] == "look" else row[1]
    if word == "hollow":
        raise Hollow(name)
    if word == "refused":
        raise Refused(name)
