"""Traces: how programs run on all heaps that fit a choice."""

from thawedwrites.machine import Machine
from thawedwrites.searches import Search
from thawedwrites.walks import Walk


class Trace:
    """The runs of the rows of a program on the heaps that fit a choice of all that they look at."""

    def __init__(self, rows, choice):
        self._choice = choice
        machine = Machine(choice.heap())
        machine.remember()
        self._walk = Walk(rows, machine)
        self._searches = {place: Search(machine, put, choice) for put, place in enumerate(self._walk.written)}

    def end(self):
        """The word and the place with which these runs end."""
        return self._walk.ending

    def sure(self):
        """The ascending pairs (place, reader) that all these runs reach."""
        # Where all other start values are None, objects are as far away as they can be.
        return self._walk.pairs()

    def can(self):
        """The ascending pairs (place, reader) that some of these runs reach."""
        return sorted([(place, reader) for place, search in self._searches.items() for reader in search.readers()
                       if search.settings(reader) is not None])

    def witness(self, place, reader):
        """A heap of which the run reaches the pair, or None."""
        if place not in self._searches:
            return None
        settings = self._searches[place].settings(reader)
        return None if settings is None else self._choice.heap_with(settings)
