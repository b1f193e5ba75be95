"""Traces: how a program runs on all heaps that fit a choice."""

from thawedwrites.choices import all_choices
from thawedwrites.searches import Search


class Trace:
    """The runs of a program on the heaps that fit a choice of all that they look at."""

    def __init__(self, choice, walk):
        self._choice = choice
        # The one in which all other start values are None.
        self._walk = walk

    def order(self):
        """A list by which traces are in the order of stories if they are ascending."""
        return self._choice.order()

    def facts(self):
        """The facts of these runs."""
        return self._choice.facts()

    def end(self):
        """The word and the place with which these runs end."""
        return self._walk.ending

    def sure(self):
        """The ascending pairs (place, reader) that all these runs reach."""
        # Where all other start values are None, objects are as far away as they can be.
        return self._walk.pairs()

    def can(self):
        """The ascending pairs (place, reader) that some of these runs reach."""
        searches = [(place, self._search(place)) for place in self._walk.written]
        return sorted([(place, reader) for place, search in searches for reader in search.readers()
                       if search.settings(reader) is not None])

    def witness(self, place, reader):
        """A heap of which the run reaches the pair, or None."""
        if place not in self._walk.written:
            return None
        settings = self._search(place).settings(reader)
        return None if settings is None else self._choice.heap_with(settings)

    def _search(self, place):
        return Search(self._walk.machine, self._walk.written.index(place), self._choice)


def all_traces(program):
    """Yields the traces of all choices of the program, in the order and with the error of all_choices()."""
    for choice, (walk,) in all_choices([program]):
        yield Trace(choice, walk)
