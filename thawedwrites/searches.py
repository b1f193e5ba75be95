"""Searches: whether a put row can reach a reader on some heap that fits what is chosen of it.

A node is a pair (number, layers): the object with this number, or, where there are layers, its clone in the last
layer, of its clone in the layer ahead, and so on (see Machine). Objects that are not met have the number UNMET and
those below it.
"""

from thawedwrites.choices import UNMET
from thawedwrites.machine import source_of


class Search:
    """The ways to the object that one put row writes, with the fields as they are ahead of it."""

    def __init__(self, machine, put, choice):
        self._fields = machine.fields
        self._choice = choice
        self._met = list(range(machine.starts()))
        self._copies = machine.copy_pictures()
        self._target, self._readers, self._now = machine.put_moments()[put]
        # Whether the target can be so near to a node, or to what an open start value is, if each step of a way may
        # have settings of its own.
        self._near = {}
        self._open_near = {}

    def readers(self):
        """The readers that were told ahead of the put row."""
        return list(self._readers)

    def settings(self, reader):
        """Open start values, and what they have to be for the put row to reach the reader; None if it cannot."""
        if reader not in self._readers:
            return None
        start, depth = self._readers[reader]
        if start is None or not self._is_near(start, (), depth):
            return None
        return self._follow(start, (), depth, {})

    def _follow(self, number, layers, left, settings):
        """The settings with those of a way to the target along at most so many fields, or None."""
        if number == self._target and not layers:
            return settings
        if left == 0:
            return None
        for field in self._fields:
            held, start, further = self._step(number, layers, field, self._now)
            for value, more in self._values(held, start, settings):
                if self._is_near(value, further, left - 1):
                    found = self._follow(value, further, left - 1, more)
                    if found is not None:
                        return found
        return None

    def _values(self, held, start, settings):
        """The objects that a step can lead to, each with the settings that it takes."""
        if start in settings:
            held = settings[start]
        if held is not None:
            return [(held, settings)]
        if start is None:
            return []
        # The settings are more at each step, so this number is a new one.
        return [(value, {**settings, start: value}) for value in self._met + [UNMET - len(settings)]]

    def _step(self, number, layers, field, picture):
        """What the field of a node holds in the picture: an object, or an open start value, and its layers."""
        if layers:
            copy, left = layers[-1]
            held, start, further = self._step(number, layers[:-1], field, self._copies[copy])
            added = ((copy, left - 1),) if left > 0 else ()
            return held, start, further + added
        if number < 0:
            return None, (number, field), ()
        cells, sources = picture
        source = source_of(sources, number, field)
        if source is None or self._choice.is_chosen(source[0]):
            return cells[number][field], None, ()
        return None, source[0], source[1]

    def _is_near(self, number, layers, left):
        key = (max(number, UNMET), layers, left)
        if key not in self._near:
            self._near[key] = self._is_step_near(number, layers, left)
        return self._near[key]

    def _is_step_near(self, number, layers, left):
        if number == self._target and not layers:
            return True
        if left == 0:
            return False
        for field in self._fields:
            held, start, further = self._step(number, layers, field, self._now)
            if held is not None and self._is_near(held, further, left - 1):
                return True
            if start is not None and self._is_open_near(further, left - 1):
                return True
        return False

    def _is_open_near(self, layers, left):
        """Whether the target can be so near to what an open start value is, with these layers."""
        if (layers, left) not in self._open_near:
            near = [self._is_near(value, layers, left) for value in self._met + [UNMET]]
            self._open_near[(layers, left)] = any(near)
        return self._open_near[(layers, left)]
