"""Programs alike: whether two programs end alike for all heaps."""

from thawedwrites.choices import all_choices
from thawedwrites.errors import InvalidArgument
from thawedwrites.runs import Run


def ends_alike(one, other):
    """None if the programs end alike for every heap that fits them, otherwise a heap for which they do not."""
    if one.inputs != other.inputs or one.fields != other.fields or len(one.outputs) != len(other.outputs):
        raise InvalidArgument("other")
    # What is chosen are joint facts, so one heap stands for all that fit them.
    for choice in all_choices([one, other]):
        heap = choice.heap()
        if told_end(one, heap) != told_end(other, heap):
            return heap
    return None


def told_end(program, heap):
    """What two runs on the heap have in common exactly if they end alike."""
    run = Run(program, heap)
    word, _ = run.end()
    if word != "done":
        return word, []
    values = [run.value(name) for name in program.outputs]
    return word, [told_value(value, values) for value in values]


def told_value(value, values):
    """The value; an own object is told by the first output that holds it, in the place of its number."""
    if value[0] != "own":
        return value
    _, _, frozen = value
    return "own", values.index(value), frozen
