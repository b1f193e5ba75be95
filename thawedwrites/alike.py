"""Programs alike: whether two programs end alike for all heaps."""

from thawedwrites.choices import all_choices
from thawedwrites.errors import InvalidArgument


def ends_alike(one, other):
    """None if the programs end alike for every heap that fits them, otherwise a heap for which they do not."""
    if one.inputs != other.inputs or one.fields != other.fields or len(one.outputs) != len(other.outputs):
        raise InvalidArgument("other")
    found = None
    # What is chosen are joint facts, so one heap stands for all that fit them; all are gone through for the limit.
    for choice, (walk, further) in all_choices([one, other]):
        if found is None and told_end(walk, one.outputs) != told_end(further, other.outputs):
            found = choice.heap()
    return found


def told_end(walk, outputs):
    """What two runs have in common exactly if they end alike."""
    word, _ = walk.ending
    if word != "done":
        return word, []
    values = [walk.machine.value(walk.machine.held(name)) for name in outputs]
    return word, [told_value(value, values) for value in values]


def told_value(value, values):
    """The value; an own object is told by the first output that holds it, in the place of its number."""
    if value[0] != "own":
        return value
    _, _, frozen = value
    return "own", values.index(value), frozen
