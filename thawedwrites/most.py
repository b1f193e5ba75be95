"""The most objects that a run of a program makes."""

from thawedwrites.choices import all_choices
from thawedwrites.runs import Run


def most_made(program):
    """The greatest number of own objects that a run of the program makes, over all heaps that fit it."""
    return Run(program, most_heap(program)).made()


def most_heap(program):
    """A heap that fits the program and whose run makes the most own objects."""
    best, most = None, -1
    for choice, _ in all_choices([program]):
        # No heap that fits the choice has more ways to follow, and the more ways, the more objects are copied.
        heap = choice.full_heap()
        made = Run(program, heap).made()
        if made > most:
            best, most = heap, made
    return best
