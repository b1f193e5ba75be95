"""Choices: what is chosen of a heap, one value after the other, until runs know all that they look at."""

from thawedwrites.errors import LimitExceeded
from thawedwrites.facts import Facts
from thawedwrites.heaps import Heap
from thawedwrites.machine import Machine
from thawedwrites.rows import steps_of
from thawedwrites.walks import Walk

# The most stories of a program.
MOST_STORIES = 2000
# Objects that are not met have the numbers from here on downwards.
UNMET = -1


class Choice:
    """What names and some start values hold; objects are numbered in the order in which they are met."""

    def __init__(self, fields, names, starts, objects):
        self.fields = fields
        # Both in the order in which they were chosen.
        self._names = names
        self._starts = starts
        # What the fields of the objects met hold, None where that is not chosen. Choices and machines share these
        # dicts, so none is changed.
        self._objects = objects

    def is_chosen(self, start):
        """True if it is chosen what this start value is."""
        return start in self._starts

    def order(self):
        """A list by which choices of all that is looked at are in the order of stories if they are ascending."""
        chosen = list(self._names.values()) + list(self._starts.values())
        # None comes ahead of all objects.
        return [-1 if value is None else value for value in chosen]

    def facts(self):
        """The choice as facts."""
        return Facts(self.fields, self._names, self._starts)

    def heap(self):
        """The heap of the objects met, in which all other start values are None."""
        return Heap(self.fields, self._objects, self._names)

    def heap_with(self, settings):
        """The heap with settings for other start values; objects not met have numbers from UNMET on."""
        unmet = -min([0] + list(settings.values()))
        objects = [dict(one) for one in self._objects] + [self._nothing() for _ in range(unmet)]
        for (owner, field), value in settings.items():
            objects[self._number(owner)][field] = self._number(value)
        return Heap(self.fields, objects, self._names)

    def full_heap(self):
        """The heap in which all other start values are one object that is not met, also those of this object."""
        starts = [(number, field) for number in [UNMET] + list(range(len(self._objects))) for field in self.fields]
        return self.heap_with({start: UNMET for start in starts if not self.is_chosen(start)})

    def walk(self, steps):
        """How a machine that remembers goes through these steps on the heap of the choice."""
        machine = Machine(self.fields, self._objects, self._names)
        machine.remember()
        return Walk(steps, machine)

    def with_name(self, name):
        """The choices behind this one of what the name holds, in their order."""
        return [Choice(self.fields, {**self._names, name: value}, self._starts, self._objects_with(value))
                for value in [None] + self._values()]

    def with_nothing(self, starts):
        """This choice with None for these start values."""
        nothing = {start: None for start in starts}
        return Choice(self.fields, self._names, {**self._starts, **nothing}, self._objects)

    def with_object(self, start):
        """The choices behind this one in which the start value is an object."""
        return [self._with_start(start, value) for value in self._values()]

    def _with_start(self, start, value):
        owner, field = start
        objects = self._objects_with(value)
        objects[owner] = {**objects[owner], field: value}
        return Choice(self.fields, self._names, {**self._starts, start: value}, objects)

    def _values(self):
        """The objects met so far, in the order of the meeting, and a new one."""
        return list(range(len(self._objects) + 1))

    def _number(self, value):
        return value if value >= 0 else len(self._objects) + UNMET - value

    def _objects_with(self, value):
        """A new list of the objects met when what is chosen next is this value."""
        return self._objects + ([self._nothing()] if value == len(self._objects) else [])

    def _nothing(self):
        return {field: None for field in self.fields}


def choice_of(facts):
    """The choice that tells what the facts tell."""
    return Choice(facts.fields, facts.names(), facts.edges(), facts.heap().objects())


def all_choices(programs):
    """Yields the choices of all that a run of one of the programs looks at, each with the walks of the programs.

    The programs have the same inputs and fields. The choices come in another order than that of stories. Raises
    LimitExceeded if there are more than 2,000, but only on the way: who needs to know that goes through all of them.
    """
    lists = [steps_of(program.rows(), ()) for program in programs]
    level = first_choices(programs[0])
    many = len(level)
    # Level by level, because the last levels have the most choices, and these are counted ahead of their walks.
    while level:
        further = []
        for choice in level:
            walks = [choice.walk(steps) for steps in lists]
            starts = new_looks(choice, walks)
            behind = other_choices(choice, starts)
            many += len(behind)
            if many > MOST_STORIES:
                raise LimitExceeded(MOST_STORIES)
            further.extend(behind)
            yield choice.with_nothing(starts), walks
        level = further


def first_choices(program):
    """The choices of what the inputs hold."""
    choices = [Choice(program.fields, {}, {}, [])]
    for name in program.inputs:
        choices = [further for choice in choices for further in choice.with_name(name)]
    return choices


def new_looks(choice, walks):
    """The start values that are not chosen yet and are looked at if all of them are None, in order."""
    found = {start: True for walk in walks for start in walk.machine.looks() if not choice.is_chosen(start)}
    return list(found)


def other_choices(choice, starts):
    """The choices behind this one in which one of the start values is an object, and those ahead of it are None."""
    found = []
    for at, start in enumerate(starts):
        found.extend(choice.with_nothing(starts[:at]).with_object(start))
    return found
