"""Heaps: numbered objects with fields, and names that hold them."""

from thawedwrites.errors import InvalidArgument, InvalidHeap
from thawedwrites.words import are_fields, is_between, is_integer, is_one_of, is_word

MOST_OBJECTS = 200
MOST_NAMES = 6


class Heap:
    """Objects 0, 1, 2 and so on, and names that hold an object's number or None."""

    def __init__(self, fields, objects, names):
        if not are_fields(fields):
            raise InvalidHeap("fields", None)
        check_objects(fields, objects)
        check_names(names, len(objects))
        self.fields = tuple(fields)
        self._objects = [dict(one) for one in objects]
        self._names = dict(names)
        # A heap never changes, so what == compares and normal() gives is made only once.
        self._form = normal_form(self.fields, self._objects, self._names)

    def __getitem__(self, name):
        if name not in self:
            raise InvalidArgument("name")
        return self._names[name]

    def __contains__(self, name):
        return is_one_of(name, self._names)

    def __iter__(self):
        raise TypeError("a heap is not iterated over")

    def __len__(self):
        return len(self._objects)

    def __eq__(self, other):
        return isinstance(other, Heap) and self._form == other._form

    def objects(self):
        """One dict for each object, from its fields to None or the number of an object."""
        return [dict(one) for one in self._objects]

    def names(self):
        """The dict from the names to None or the number of an object."""
        return dict(self._names)

    def at(self, name, path):
        """The number of the object behind the path from what the name holds, or None."""
        if name not in self:
            raise InvalidArgument("name")
        if not is_path(path, self.fields):
            raise InvalidArgument("path")
        number = self._names[name]
        for field in path:
            if number is None:
                return None
            number = self._objects[number][field]
        return number

    def parts(self, name, depth):
        """The ascending numbers of the objects at most depth fields away from the name's one."""
        if name not in self:
            raise InvalidArgument("name")
        if not is_integer(depth) or depth < 0:
            raise InvalidArgument("depth")
        return near_numbers(self.fields, self._objects, self._names[name], depth)

    def normal(self):
        """The normal form of this heap."""
        fields, objects, names = self._form
        return Heap(fields, objects, names)


def check_objects(fields, objects):
    """Raises InvalidHeap if the objects are not those of a heap with these fields."""
    if not isinstance(objects, list) or len(objects) > MOST_OBJECTS:
        raise InvalidHeap("objects", None)
    for number, one in enumerate(objects):
        if not is_object(one, fields, len(objects)):
            raise InvalidHeap("object", number)


def check_names(names, many):
    """Raises InvalidHeap if the names are not those of a heap with so many objects."""
    if not isinstance(names, dict) or len(names) > MOST_NAMES:
        raise InvalidHeap("names", None)
    if not all([is_word(name) for name in names]):
        raise InvalidHeap("names", None)
    for name in sorted(names):
        if not is_held(names[name], many):
            raise InvalidHeap("name", name)


def is_object(value, fields, many):
    """True if the value is a dict from exactly the fields to what a field can hold."""
    if not isinstance(value, dict) or len(value) != len(fields):
        return False
    return all([field in value and is_held(value[field], many) for field in fields])


def is_held(value, many):
    """True if a field or a name can hold the value in a heap of so many objects."""
    return value is None or is_between(value, 0, many - 1)


def is_path(value, fields):
    """True if the value is a list or tuple of some of the fields."""
    if not isinstance(value, (list, tuple)):
        return False
    return all([is_one_of(step, fields) for step in value])


def near_numbers(fields, objects, start, depth):
    """The ascending numbers of the objects at most depth fields away from the start."""
    if start is None:
        return []
    met = {start: True}
    edge = [start]
    # The depth may be huge, but no object is further away than there are objects.
    for _ in range(min(depth, len(objects))):
        further = [objects[one][field] for one in edge for field in fields]
        edge = []
        for number in further:
            if number is not None and number not in met:
                met[number] = True
                edge.append(number)
    return sorted(met)


def normal_form(fields, objects, names):
    """The fields, objects and names of the normal form."""
    numbers = new_numbers(names, lambda fresh: [objects[one][field] for one in fresh for field in fields])
    # None has no new number, so get() leaves it None.
    renumbered = [{field: numbers.get(objects[old][field]) for field in fields} for old in numbers]
    return fields, renumbered, {name: numbers.get(names[name]) for name in names}


def new_numbers(names, held_by):
    """A dict from the old to the new numbers, in the order of the new ones.

    The function held_by returns, for a list of old numbers, what the fields of these objects hold, in order.
    """
    numbers = {}
    met = [names[name] for name in sorted(names)]
    while met:
        fresh = []
        for number in met:
            if number is not None and number not in numbers:
                numbers[number] = len(numbers)
                fresh.append(number)
        met = held_by(fresh)
    return numbers
