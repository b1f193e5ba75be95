"""Stories: how a program ends, and which writes reach which readers, for all heaps at once."""

from thawedwrites.choices import all_choices, choice_of
from thawedwrites.errors import InvalidArgument
from thawedwrites.facts import Facts
from thawedwrites.runs import Run, fits
from thawedwrites.traces import Trace


def stories(program):
    """The list of all stories (facts, word, place, sure, can), in the order of choices."""
    rows = program.rows()
    return [told_story(rows, choice.facts(), choice) for choice in all_choices([program])]


def story_of(program, heap):
    """The story that the heap fits."""
    if not fits(program, heap):
        raise InvalidArgument("heap")
    objects = heap.objects()
    starts = {(number, field): objects[number][field] for number, field in Run(program, heap).looks()}
    facts = Facts(heap.fields, heap.names(), starts)
    return told_story(program.rows(), facts, choice_of(facts))


def told_story(rows, facts, choice):
    """The story of the rows of a program with these facts; the choice tells the same."""
    trace = Trace(rows, choice)
    word, place = trace.end()
    return facts, word, place, trace.sure(), trace.can()
