"""A second, plain way to run programs and rows, for comparison with the package.

It follows the words of the document with one Python object for each object, and shares nothing with the package but
the values that go in and out.
"""

import copy
import itertools
import random


class Thing:
    """An object: what its fields hold, and which start values that comes from."""

    def __init__(self, told, fields):
        self.told = told
        self.held = {field: None for field in fields}
        self.sources = {field: None for field in fields}
        self.frozen = False


class Stop(Exception):
    """A row that cannot be done."""

    def __init__(self, word, name):
        super().__init__(word, name)
        self.word = word
        self.name = name


class Model:
    """What a run or a live holds."""

    def __init__(self, fields, objects, names):
        self.fields = fields
        things = [Thing(("start", number), fields) for number in range(len(objects))]
        for number, thing in enumerate(things):
            for field in fields:
                at = objects[number][field]
                thing.held[field] = None if at is None else things[at]
                thing.sources[field] = (number, field)
        self.variables = {name: None if at is None else things[at] for name, at in names.items()}
        self.readers = []
        self.looks = []
        self.made = 0
        self.puts = 0
        self.reached = []

    def get(self, name):
        return self.variables.get(name)

    def new_thing(self):
        thing = Thing(("own", self.made), self.fields)
        self.made += 1
        return thing

    def do(self, row, at=None):
        """Does a plain row; at is what a put row is called in the reached pairs."""
        getattr(self, "do_" + row[0])(*row[1:], *([at] if row[0] == "put" else []))

    def do_move(self, x, y):
        self.variables[x] = self.get(y)

    def do_none(self, x):
        self.variables[x] = None

    def do_new(self, x):
        self.variables[x] = self.new_thing()

    def do_look(self, x, y, field):
        thing = self.get(y)
        if thing is None:
            raise Stop("hollow", y)
        if thing.sources[field] is not None and thing.sources[field] not in self.looks:
            self.looks.append(thing.sources[field])
        self.variables[x] = thing.held[field]

    def do_put(self, x, field, y, at):
        thing = self.get(x)
        if thing is None:
            raise Stop("hollow", x)
        if thing.frozen:
            raise Stop("refused", x)
        for reader, start, depth in self.readers:
            if any(one is thing for one in self.near(start, depth)):
                self.reached.append((self.puts if at is None else at, reader))
        thing.held[field] = self.get(y)
        thing.sources[field] = None
        self.puts += 1

    def do_watch(self, reader, x, depth):
        self.readers.append((reader, self.get(x), depth))

    def do_copy(self, x, y, kind, depth):
        origin = self.get(y)
        if depth == 0 or origin is None:
            self.variables[x] = origin
            return
        ends = {}
        for length in range(depth):
            for way in itertools.product(self.fields, repeat=length):
                end = self.follow(origin, way)
                if end is not None:
                    ends[way] = end
        copies = {way: self.new_thing() for way in ends}
        for way, end in ends.items():
            for field in self.fields:
                copies[way].frozen = kind == "freeze"
                copies[way].held[field] = copies.get(way + (field,), end.held[field])
                copies[way].sources[field] = end.sources[field]
        self.variables[x] = copies[()]

    def follow(self, thing, way):
        for field in way:
            if thing is not None:
                thing = thing.held[field]
        return thing

    def near(self, start, depth):
        """The things at most depth fields away, some of them more than once."""
        ways = [way for length in range(depth + 1) for way in itertools.product(self.fields, repeat=length)]
        found = [self.follow(start, way) for way in ways]
        return [thing for thing in found if thing is not None]

    def value(self, name):
        thing = self.get(name)
        if thing is None:
            return ("none",)
        return thing.told + ((thing.frozen,) if thing.told[0] == "own" else ())

    def behind(self, names):
        """The objects and names of the normal form."""
        found = []
        queue = [self.get(name) for name in sorted(names)]
        while queue:
            thing = queue.pop(0)
            if thing is not None and thing not in found:
                found.append(thing)
                queue.extend(thing.held[field] for field in self.fields)
        numbers = {id(thing): number for number, thing in enumerate(found)}
        objects = [{field: numbers.get(id(thing.held[field])) for field in self.fields} for thing in found]
        return objects, {name: numbers.get(id(self.get(name))) for name in names}

    def run(self, rows, place=()):
        """Runs the rows of a program and returns what Run.end() tells."""
        for index, row in enumerate(rows):
            here = place + (index,)
            end = ("done", None)
            if row[0] == "same":
                branch = 0 if self.get(row[1]) is self.get(row[2]) else 1
                end = self.run(row[3 + branch], here + (branch,))
            elif row[0] == "empty":
                branch = 0 if self.get(row[1]) is None else 1
                end = self.run(row[2 + branch], here + (branch,))
            else:
                try:
                    self.do(row, here)
                except Stop as stop:
                    end = (stop.word, here)
            if end[0] != "done":
                return end
        return ("done", None)

    def attempt(self, rows):
        """This model with all rows done, the word, and the index of the row that stopped it."""
        other = copy.deepcopy(self)
        for index, row in enumerate(rows):
            try:
                other.do(row)
            except Stop as stop:
                return other, stop.word, index
        return other, "done", None


def model_of(heap):
    return Model(heap.fields, heap.objects(), heap.names())


def random_heap_parts(chance, fields, names, most):
    """The objects and names of a random heap."""
    many = chance.choice([0] + list(range(1, most + 1)) * 3)
    values = list(range(many)) * 4 + [None]
    objects = [{field: chance.choice(values) for field in fields} for _ in range(many)]
    return objects, {name: chance.choice(values) for name in names}


def random_plain_row(chance, fields, variables, reader):
    """A random plain row, with this reader if it is a watch row."""
    x, y = chance.choice(variables), chance.choice(variables)
    word = chance.choice("move none new look look look put put put put copy copy copy watch watch watch".split())
    return {
        "move": ("move", x, y),
        "none": ("none", x),
        "new": ("new", x),
        "look": ("look", x, y, chance.choice(fields)),
        "put": ("put", x, chance.choice(fields), y),
        "copy": ("copy", x, y, chance.choice(["freeze", "thaw"]), chance.randint(0, 4)),
        "watch": ("watch", reader, x, chance.randint(0, 4)),
    }[word]


def random_rows(chance, fields, variables, many):
    """Random rows of a program, at most so many in all, with at most 4 copy and 3 watch rows."""
    left = {"rows": many, "copy": 4, "watch": 3}

    def make(depth):
        rows = []
        while left["rows"] > 0 and chance.random() < 0.95 - 0.25 * depth:
            left["rows"] -= 1
            if depth < 3 and chance.random() < 0.2:
                x, y = chance.choice(variables), chance.choice(variables)
                head = ("same", x, y) if chance.random() < 0.6 else ("empty", x)
                rows.append(head + (make(depth + 1), make(depth + 1)))
                continue
            row = random_plain_row(chance, fields, variables, "rst"[left["watch"] - 1])
            if left.get(row[0], 1) > 0:
                if row[0] in left:
                    left[row[0]] -= 1
                rows.append(row)
        return rows

    return make(0)


def chance_of(seed):
    return random.Random(seed)
