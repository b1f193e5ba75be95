"""Runs: what a program does on one heap."""

from thawedwrites.errors import InvalidArgument
from thawedwrites.heaps import Heap
from thawedwrites.machine import MOST_STARTS, Machine
from thawedwrites.rows import steps_of
from thawedwrites.walks import Walk
from thawedwrites.words import is_word


class Run:
    """The run of a program on a heap that fits it."""

    def __init__(self, program, heap):
        if not fits(program, heap):
            raise InvalidArgument("heap")
        self._variables = program.variables()
        self._machine = Machine(heap.fields, heap.objects(), heap.names())
        self._walk = Walk(steps_of(program.rows(), ()), self._machine)

    def end(self):
        """The word that tells how the run ended, and the place of the row where it ended, or None."""
        return self._walk.ending

    def reached(self):
        """The ascending pairs (place, reader): the put row at the place reached the reader."""
        return self._walk.pairs()

    def made(self):
        """How many own objects were made."""
        return self._machine.made()

    def value(self, name):
        """What the variable holds at the end: ("none",), ("start", n) or ("own", k, frozen)."""
        if not is_word(name):
            raise InvalidArgument("name")
        return self._machine.value(self._machine.held(name))

    def looks(self):
        """The start values (n, f) that the run looked at, in the order of the first looks."""
        return self._machine.looks()

    def behind(self):
        """The heap at the end, in normal form, with the program's variables as its names."""
        return self._machine.behind(self._variables)


def fits(program, heap):
    """True if the value is a heap on which the program can be run."""
    if not isinstance(heap, Heap) or len(heap) > MOST_STARTS:
        return False
    return heap.fields == program.fields and sorted(heap.names()) == sorted(program.inputs)
