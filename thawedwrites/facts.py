"""Facts: what is told of a part of a heap."""

from thawedwrites.errors import InvalidArgument, InvalidFacts
from thawedwrites.heaps import Heap, is_path, new_numbers
from thawedwrites.words import are_fields, is_integer, is_one_of, is_word

MOST_FACT_NAMES = 3
MOST_LABELS = 40


class Facts:
    """What names and some fields hold, with labels for objects; they never change."""

    def __init__(self, fields, names, edges):
        if not are_fields(fields):
            raise InvalidFacts("fields")
        if not are_told_names(names):
            raise InvalidFacts("names")
        if not are_told_edges(edges, fields):
            raise InvalidFacts("edges")
        numbers = label_numbers(fields, names, edges)
        if not all([label in numbers for label, _ in edges]):
            raise InvalidFacts("far")
        if len(numbers) > MOST_LABELS:
            raise InvalidFacts("many")
        self.fields = tuple(fields)
        self._names = {name: numbers.get(names[name]) for name in sorted(names)}
        self._edges = {(numbers[label], field): numbers.get(edges[(label, field)])
                       for label in numbers for field in fields if (label, field) in edges}
        self._labels = list(numbers.values())

    def __contains__(self, value):
        if isinstance(value, Heap):
            return self.fields == value.fields and self._hold_in(value.names(), heap_edges(value))
        if isinstance(value, Facts):
            return self.fields == value.fields and self._hold_in(value._names, value._edges)
        return False

    def __len__(self):
        return len(self._labels)

    def __eq__(self, other):
        return (isinstance(other, Facts) and self.fields == other.fields and self._names == other._names
                and self._edges == other._edges)

    def names(self):
        """The dict from the names to None or a label."""
        return dict(self._names)

    def edges(self):
        """The dict from the pairs (label, field) of the told fields to None or a label."""
        return {pair: self._edges[pair] for pair in self._edges}

    def heap(self):
        """The heap of the told objects alone, in which open fields hold None."""
        objects = [{field: self._edges.get((label, field)) for field in self.fields} for label in self._labels]
        return Heap(self.fields, objects, self._names)

    def told(self, name, path):
        """What stands behind the path: ("object", label), ("none",) or ("open",)."""
        if not is_one_of(name, self._names):
            raise InvalidArgument("name")
        if not isinstance(path, tuple) or not is_path(path, self.fields):
            raise InvalidArgument("path")
        label = self._names[name]
        for field in path:
            if label is None:
                return ("none",)
            if (label, field) not in self._edges:
                return ("open",)
            label = self._edges[(label, field)]
        return ("none",) if label is None else ("object", label)

    def _hold_in(self, names, edges):
        """True if all that is told here is so where the names and fields hold this."""
        if sorted(names) != sorted(self._names):
            return False
        chosen = chosen_objects(first_ways(self._names, self._edges), names, edges)
        if len(chosen) < len(self._labels) or len(set(chosen)) < len(chosen):
            return False
        if not all([names[name] == chosen_at(chosen, self._names[name]) for name in self._names]):
            return False
        return all([is_told_so(edges, (chosen[label], field), chosen_at(chosen, held))
                    for (label, field), held in self._edges.items()])


def are_told_names(value):
    """True if the value is a dict that may be the names of facts."""
    if not isinstance(value, dict) or not 1 <= len(value) <= MOST_FACT_NAMES:
        return False
    return all([is_word(name) and is_told_value(held) for name, held in value.items()])


def are_told_edges(value, fields):
    """True if the value is a dict that may be the edges of facts with these fields."""
    if not isinstance(value, dict):
        return False
    return all([is_pair(key, fields) and is_told_value(held) for key, held in value.items()])


def is_pair(key, fields):
    """True if the value is a tuple of a label and one of the fields."""
    return isinstance(key, tuple) and len(key) == 2 and is_label(key[0]) and is_one_of(key[1], fields)


def is_told_value(value):
    """True if facts can tell that a name or a field holds the value."""
    return value is None or is_label(value)


def is_label(value):
    """True if the value is an integer from 0."""
    return is_integer(value) and value >= 0


def label_numbers(fields, names, edges):
    """A dict from the reached labels to their numbers in normal form, in the order of these."""
    # An open field leads to no label, as if it held None.
    return new_numbers(names, lambda fresh: [edges.get((one, field)) for one in fresh for field in fields])


def first_ways(names, edges):
    """For each label, in order, what first leads to it: (None, name) or (an earlier label, field)."""
    ways = [(names[name], (None, name)) for name in sorted(names)] + [(edges[pair], pair) for pair in edges]
    first = []
    for label, way in ways:
        # In normal form the labels are met in their order.
        if label == len(first):
            first.append(way)
    return first


def chosen_objects(ways, names, edges):
    """The objects to which the ways lead, up to the first that leads to none."""
    chosen = []
    for label, word in ways:
        held = names[word] if label is None else edges.get((chosen[label], word))
        if held is None:
            return chosen
        chosen.append(held)
    return chosen


def chosen_at(chosen, label):
    """The object that is chosen for the label; None for None."""
    return None if label is None else chosen[label]


def is_told_so(edges, pair, held):
    """True if the edges tell that the pair of an object and a field holds just this."""
    return pair in edges and edges[pair] == held


def heap_edges(heap):
    """What each field of each object of the heap holds."""
    return {(number, field): one[field] for number, one in enumerate(heap.objects()) for field in heap.fields}
