"""Choices: what is chosen of a heap, one value after the other, until runs know all that they look at."""

from thawedwrites.errors import LimitExceeded
from thawedwrites.facts import Facts
from thawedwrites.heaps import Heap
from thawedwrites.machine import Machine
from thawedwrites.walks import Walk

# The most stories of a program.
MOST_STORIES = 2000
# Objects that are not met have the numbers from here on downwards.
UNMET = -1


class Choice:
    """What names and some start values hold; objects are numbered in the order in which they are met."""

    def __init__(self, fields, names, starts, many):
        self.fields = fields
        self._names = names
        self._starts = starts
        self._many = many

    def is_chosen(self, start):
        """True if it is chosen what this start value is."""
        return start in self._starts

    def facts(self):
        """The choice as facts."""
        return Facts(self.fields, self._names, self._starts)

    def heap(self):
        """The heap of the objects met, in which all other start values are None."""
        return self.heap_with({})

    def heap_with(self, settings):
        """The heap with settings for other start values; objects not met have numbers from UNMET on."""
        starts = {start: self._starts[start] for start in self._starts}
        for (owner, word), value in settings.items():
            starts[(self._number(owner), word)] = self._number(value)
        many = self._many - min([0] + list(settings.values()))
        objects = [{field: starts.get((number, field)) for field in self.fields} for number in range(many)]
        return Heap(self.fields, objects, self._names)

    def full_heap(self):
        """The heap in which all other start values are one object that is not met, also those of this object."""
        starts = [(number, field) for number in [UNMET] + list(range(self._many)) for field in self.fields]
        return self.heap_with({start: UNMET for start in starts if not self.is_chosen(start)})

    def with_name(self, name):
        """The choices behind this one of what the name holds, in their order."""
        return [Choice(self.fields, {**self._names, name: value}, self._starts, self._many_with(value))
                for value in [None] + self._values()]

    def with_nothing(self, starts):
        """This choice with None for these start values."""
        nothing = {start: None for start in starts}
        return Choice(self.fields, self._names, {**self._starts, **nothing}, self._many)

    def with_object(self, start):
        """The choices behind this one in which the start value is an object, in their order."""
        return [Choice(self.fields, self._names, {**self._starts, start: value}, self._many_with(value))
                for value in self._values()]

    def _values(self):
        """The objects met so far, in the order of the meeting, and a new one."""
        return list(range(self._many + 1))

    def _number(self, value):
        return value if value >= 0 else self._many + UNMET - value

    def _many_with(self, value):
        return self._many + 1 if value == self._many else self._many


def choice_of(facts):
    """The choice that tells what the facts tell."""
    return Choice(facts.fields, facts.names(), facts.edges(), len(facts))


def all_choices(programs):
    """The choices of all that a run of one of the programs looks at, in their order.

    The programs have the same inputs and fields. Raises LimitExceeded if there are more than 2,000 choices.
    """
    choices = [Choice(programs[0].fields, {}, {}, 0)]
    for name in programs[0].inputs:
        choices = [further for choice in choices for further in choice.with_name(name)]
    lists = [program.rows() for program in programs]
    found = []
    for choice in choices:
        add_choices(lists, choice, found)
    return found


def add_choices(lists, choice, found):
    """Appends the choice, with None for all that is still looked at, and then those in which it is something else."""
    if len(found) == MOST_STORIES:
        raise LimitExceeded(MOST_STORIES)
    starts = new_looks(lists, choice)
    found.append(choice.with_nothing(starts))
    # The later a start value is looked at, the earlier come the choices that differ in it first.
    for at in range(len(starts) - 1, -1, -1):
        for further in choice.with_nothing(starts[:at]).with_object(starts[at]):
            add_choices(lists, further, found)


def new_looks(lists, choice):
    """The start values that are not chosen yet and are looked at if all of them are None, in order."""
    found = {}
    for rows in lists:
        for start in Walk(rows, Machine(choice.heap())).machine.looks():
            if not choice.is_chosen(start):
                found[start] = True
    return list(found)
