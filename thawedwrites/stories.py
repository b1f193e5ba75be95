"""Stories: how a program ends, and which writes reach which readers, for all heaps at once."""

from thawedwrites.choices import choice_of
from thawedwrites.errors import InvalidArgument
from thawedwrites.facts import Facts
from thawedwrites.rows import steps_of
from thawedwrites.runs import Run, fits
from thawedwrites.traces import Trace, all_traces


def stories(program):
    """The list of all stories (facts, word, place, sure, can), in the order of choices."""
    traces = sorted(list(all_traces(program)), key=lambda trace: trace.order())
    return [told_story(trace.facts(), trace) for trace in traces]


def story_of(program, heap):
    """The story that the heap fits."""
    if not fits(program, heap):
        raise InvalidArgument("heap")
    objects = heap.objects()
    starts = {(number, field): objects[number][field] for number, field in Run(program, heap).looks()}
    facts = Facts(heap.fields, heap.names(), starts)
    choice = choice_of(facts)
    return told_story(facts, Trace(choice, choice.walk(steps_of(program.rows(), ()))))


def told_story(facts, trace):
    """The story with these facts; the trace is that of the program on the heaps that fit them."""
    word, place = trace.end()
    return facts, word, place, trace.sure(), trace.can()
