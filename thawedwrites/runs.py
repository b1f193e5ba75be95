"""Runs: what a program does on one heap."""

from thawedwrites.errors import InvalidArgument
from thawedwrites.heaps import Heap
from thawedwrites.machine import MOST_STARTS, Machine
from thawedwrites.rows import branches, placed_rows
from thawedwrites.words import is_word


class Run:
    """The run of a program on a heap that fits it."""

    def __init__(self, program, heap):
        if not fits(program, heap):
            raise InvalidArgument("heap")
        self._machine = Machine(heap)
        self._variables = program.variables()
        # The places of the put rows that were done, in order.
        self._written = []
        self._end = self._do_rows(program.rows(), ())

    def end(self):
        """The word that tells how the run ended, and the place of the row where it ended, or None."""
        return self._end

    def reached(self):
        """The ascending pairs (place, reader): the put row at the place reached the reader."""
        return sorted([(self._written[put], reader) for put, reader in self._machine.reached()])

    def made(self):
        """How many own objects were made."""
        return self._machine.made()

    def value(self, name):
        """What the variable holds at the end: ("none",), ("start", n) or ("own", k, frozen)."""
        if not is_word(name):
            raise InvalidArgument("name")
        return self._machine.value(self._machine.held(name))

    def looks(self):
        """The start values (n, f) that the run looked at, in the order of the first looks."""
        return self._machine.looks()

    def behind(self):
        """The heap at the end, in normal form, with the program's variables as its names."""
        return self._machine.behind(self._variables)

    def _do_rows(self, rows, place):
        """Does the rows behind the place and returns what end() tells."""
        for here, row in placed_rows(rows, place):
            word, where = self._do_row(row, here)
            if word != "done":
                return word, where
        return "done", None

    def _do_row(self, row, place):
        lists = branches(row)
        if lists:
            branch = 0 if self._is_so(row) else 1
            return self._do_rows(lists[branch], place + (branch,))
        word = self._machine.do(row)
        if word != "done":
            return word, place
        if row[0] == "put":
            self._written.append(place)
        return word, None

    def _is_so(self, row):
        """True if the first rows of a same or empty row are to be run."""
        held = self._machine.held(row[1])
        if row[0] == "same":
            return held == self._machine.held(row[2])
        return held is None


def fits(program, heap):
    """True if the value is a heap on which the program can be run."""
    if not isinstance(heap, Heap) or len(heap) > MOST_STARTS:
        return False
    return heap.fields == program.fields and sorted(heap.names()) == sorted(program.inputs)
