"""The machine: variables, objects and readers, and what plain rows do with them."""

from thawedwrites.errors import LimitExceeded
from thawedwrites.heaps import MOST_OBJECTS, Heap, near_numbers, normal_form

# The most objects of a heap with which a machine begins.
MOST_STARTS = 100


class Machine:
    """Start objects have their numbers in the heap; own objects are numbered behind them.

    A field that comes from a start value has a source, a pair (start value, layers). Each layer (copy, left) says
    that the copy with this number puts a clone in the place of what the start value is, if that is an object, with
    so many more layers of clones behind it; the layers come in the order of the copies. Sources are kept only of
    objects that were made or written; the others are told by source_of().
    """

    def __init__(self, fields, objects, names):
        self.fields = fields
        self._starts = len(objects)
        self._variables = dict(names)
        # For each object what its fields hold. The dicts of the fields, and those of their sources, are not changed
        # but exchanged, because pictures of earlier moments and other machines share them.
        self._cells = dict(enumerate(objects))
        self._sources = {}
        # Whether an own object is frozen.
        self._frozen = {}
        self._readers = {}
        # A dict because it keeps the order of the first looks.
        self._looks = {}
        self._copies = 0
        self._puts = 0
        self._reached = []
        # What readers look at, by their object and depth, as far as no put has changed it.
        self._views = {}
        # What is kept for searches, or None while nothing is.
        self._kept_copies = None
        self._kept_puts = None
        # What take_back() needs, or None while nothing is to be taken back.
        self._log = None
        self._before = None

    def held(self, name):
        """The number of the object that the variable holds, or None."""
        return self._variables.get(name)

    def field_held(self, number, field):
        """The number of the object that the field of the object holds, or None."""
        return self._cells[number][field]

    def value(self, number):
        """The object with this number, or None, as users of the package see it."""
        if number is None:
            return ("none",)
        if number < self._starts:
            return ("start", number)
        return ("own", number - self._starts, self._frozen[number])

    def is_told(self, reader):
        """True if the reader has been told an object, or None in its place."""
        return reader in self._readers

    def made(self):
        """How many own objects there are."""
        return len(self._cells) - self._starts

    def starts(self):
        """How many start objects there are."""
        return self._starts

    def looks(self):
        """The start values that were looked at, in the order of the first looks."""
        return list(self._looks)

    def reached(self):
        """The ascending pairs (k, reader): the put row number k reached the reader."""
        return sorted(self._reached)

    def behind(self, names):
        """The heap, in normal form, of these variables and all objects that they come to."""
        held = {name: self.held(name) for name in names}
        fields, objects, numbers = normal_form(self.fields, self._cells, held)
        if len(objects) > MOST_OBJECTS:
            raise LimitExceeded(MOST_OBJECTS)
        return Heap(fields, objects, numbers)

    def do(self, row):
        """Does a plain row and returns "done", or does nothing and returns "hollow" or "refused"."""
        word = row[0]
        if word == "look":
            return self._look(row[1], row[2], row[3])
        if word == "put":
            return self._put(row[1], row[2], row[3])
        if word == "watch":
            self._write(self._readers, row[1], (self.held(row[2]), row[3]))
        elif word == "move":
            self._write(self._variables, row[1], self.held(row[2]))
        elif word == "none":
            self._write(self._variables, row[1], None)
        elif word == "new":
            self._write(self._variables, row[1], self._make(self._nothing(), self._nothing(), False))
        else:
            self._write(self._variables, row[1], self._copy(self.held(row[2]), row[3] == "freeze", row[4]))
        return "done"

    def remember(self):
        """From here on what copies and put rows find is kept for searches."""
        self._kept_copies = {}
        self._kept_puts = []

    def copy_pictures(self):
        """For the number of each copy that was kept, the picture ahead of it: what fields hold and their sources."""
        return dict(self._kept_copies)

    def put_moments(self):
        """For each put row that was kept: the written object, the readers and the picture ahead of it."""
        return list(self._kept_puts)

    def begin(self):
        """From here on what is done can be taken back."""
        self._log = []
        self._before = (len(self._reached), self._copies, self._puts, self._views)
        # A new dict, so that the views of before stay as they are.
        self._views = {key: view for key, view in self._views.items()}

    def keep(self):
        """What was done since begin() stays."""
        self._log = None
        self._before = None

    def take_back(self):
        """Everything becomes as it was at begin()."""
        for table, key, was_there, old in self._log[::-1]:
            if was_there:
                table[key] = old
            else:
                del table[key]
        self._log = None
        reached, self._copies, self._puts, self._views = self._before
        del self._reached[reached:]

    def _write(self, table, key, value):
        """Sets an item of what was there at begin(), so that it can be taken back."""
        if self._log is not None:
            self._log.append((table, key, key in table, table.get(key)))
        table[key] = value

    def _look(self, x, y, field):
        number = self.held(y)
        if number is None:
            return "hollow"
        source = source_of(self._sources, number, field)
        if source is not None:
            self._write(self._looks, source[0], True)
        self._write(self._variables, x, self._cells[number][field])
        return "done"

    def _put(self, x, field, y):
        number = self.held(x)
        if number is None:
            return "hollow"
        if self._frozen.get(number):
            return "refused"
        if self._kept_puts is not None:
            self._kept_puts.append((number, dict(self._readers), self._picture()))
        self._reach(number)
        self._write(self._cells, number, {**self._cells[number], field: self.held(y)})
        self._write(self._sources, number, {**self._sources_of(number), field: None})
        # A write changes only the views that contain the written object.
        self._views = {key: view for key, view in self._views.items() if number not in view}
        self._puts += 1
        return "done"

    def _picture(self):
        return dict(self._cells), dict(self._sources)

    def _reach(self, number):
        """Notes the readers that look at the object as reached by the put row that is being done."""
        for reader, (start, depth) in self._readers.items():
            if number in self._view(start, depth):
                self._reached.append((self._puts, reader))

    def _view(self, start, depth):
        """A dict whose keys are the objects at most depth fields away from the start; none from None."""
        if (start, depth) not in self._views:
            near = near_numbers(self.fields, self._cells, start, depth)
            self._views[(start, depth)] = {number: True for number in near}
        return self._views[(start, depth)]

    def _copy(self, origin, frozen, depth):
        """The copy of the origin, an object or None; objects nearer than the depth are copied."""
        if origin is None or depth == 0:
            return origin
        if self._kept_copies is not None:
            self._kept_copies[self._copies] = self._picture()
        first = self._clone(origin, frozen, depth - 1)
        layer = [first]
        for left in range(depth - 2, -1, -1):
            layer = self._clone_behind(layer, frozen, left)
        self._copies += 1
        return first

    def _clone_behind(self, layer, frozen, left):
        """Lets the clones of the layer hold clones of what they hold, and returns these."""
        further = []
        for number in layer:
            cells = self._cells[number]
            for field in self.fields:
                if cells[field] is not None:
                    cells[field] = self._clone(cells[field], frozen, left)
                    further.append(cells[field])
        return further

    def _clone(self, number, frozen, left):
        """Makes a clone with so many layers of clones behind it, as yet without these."""
        added = ((self._copies, left - 1),) if left > 0 else ()
        told = {field: None if source is None else (source[0], source[1] + added)
                for field, source in self._sources_of(number).items()}
        return self._make(dict(self._cells[number]), told, frozen)

    def _make(self, cells, sources, frozen):
        """Makes an own object and returns its number."""
        number = len(self._cells)
        self._write(self._cells, number, cells)
        self._write(self._sources, number, sources)
        self._write(self._frozen, number, frozen)
        return number

    def _sources_of(self, number):
        """A new dict of the sources of the fields of the object."""
        return {field: source_of(self._sources, number, field) for field in self.fields}

    def _nothing(self):
        return {field: None for field in self.fields}


def source_of(sources, number, field):
    """The source of the field of the object, or None; each start value is the source of its own field."""
    if number in sources:
        return sources[number][field]
    return (number, field), ()
