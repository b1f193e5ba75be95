"""Questions about all heaps: what some heap that fits a program leads to, and what none does."""

from thawedwrites.errors import InvalidArgument
from thawedwrites.facts import Facts
from thawedwrites.rows import is_place
from thawedwrites.stories import stories
from thawedwrites.traces import all_traces
from thawedwrites.words import is_one_of


def never(program):
    """True if no write of the program can reach a reader."""
    reaching = False
    # All are gone through, whatever the answer is, because of the limit; so in witness(), too.
    for trace in all_traces(program):
        reaching = reaching or len(trace.can()) > 0
    return not reaching


def witness(program, place, reader):
    """A heap of which the run reaches the pair (place, reader), or None if there is none."""
    if not is_place(place) or place not in program.writes():
        raise InvalidArgument("place")
    if not is_one_of(reader, [name for name, _ in program.readers()]):
        raise InvalidArgument("reader")
    heap = None
    for trace in all_traces(program):
        if heap is None:
            heap = trace.witness(place, reader)
    return heap


def refusals(program):
    """The ascending places at which a run of the program can end with "refused"."""
    return endings(program, "refused")


def hollows(program):
    """The ascending places at which a run of the program can end with "hollow"."""
    return endings(program, "hollow")


def endings(program, told):
    """The ascending places at which a story of the program ends with the told word."""
    ends = [trace.end() for trace in all_traces(program)]
    return sorted({place for word, place in ends if word == told})


def is_listed(program, value):
    """True if the value is a list of exactly the stories of the program, each once, in any order."""
    told = {story_key(story): True for story in stories(program)}
    if not isinstance(value, list) or len(value) != len(told):
        return False
    if not all([has_kinds(one) for one in value]):
        return False
    found = {story_key(one): True for one in value}
    return len(found) == len(told) and all([key in told for key in found])


def has_kinds(value):
    """True if the value is a tuple of five parts of the kinds that the parts of a story have."""
    if not isinstance(value, tuple) or len(value) != 5:
        return False
    facts, word, place, sure, can = value
    if not isinstance(facts, Facts) or not isinstance(word, str):
        return False
    return (place is None or is_place(place)) and are_pairs(sure) and are_pairs(can)


def are_pairs(value):
    """True if the value is a list of tuples of a tuple of integers and a string."""
    return isinstance(value, list) and all([is_pair(one) for one in value])


def is_pair(value):
    """True if the value is a tuple of a tuple of integers and a string."""
    return isinstance(value, tuple) and len(value) == 2 and is_place(value[0]) and isinstance(value[1], str)


def story_key(story):
    """A key that two stories share only if they are equal; the parts have the kinds of a story's parts."""
    facts, word, place, sure, can = story
    # In normal form, equal dicts of facts have equal orders, too.
    return (facts.fields, tuple(facts.names().items()), tuple(facts.edges().items()), word, place,
            tuple(sure), tuple(can))
