"""A second, plain way to run programs and rows, for comparison with the package.

It follows the words of the document with one Python object for each object, and shares nothing with the package but
the values that go in and out. At its end stands a plain way to find all stories.
"""

import copy
import itertools
import random

from thawedwrites.heaps import Heap
from thawedwrites.programs import Program


class Thing:
    """An object: what its fields hold, and which start values that comes from."""

    def __init__(self, told, fields):
        self.told = told
        self.held = {field: None for field in fields}
        self.sources = {field: None for field in fields}
        self.frozen = False


class Stop(Exception):
    """A row that cannot be done."""

    def __init__(self, word, name):
        super().__init__(word, name)
        self.word = word
        self.name = name


class Model:
    """What a run or a live holds."""

    def __init__(self, fields, objects, names):
        self.fields = fields
        things = [Thing(("start", number), fields) for number in range(len(objects))]
        for number, thing in enumerate(things):
            for field in fields:
                at = objects[number][field]
                thing.held[field] = None if at is None else things[at]
                thing.sources[field] = (number, field)
        self.variables = {name: None if at is None else things[at] for name, at in names.items()}
        self.readers = []
        self.looks = []
        self.made = 0
        self.puts = 0
        self.reached = []

    def get(self, name):
        return self.variables.get(name)

    def new_thing(self):
        thing = Thing(("own", self.made), self.fields)
        self.made += 1
        return thing

    def do(self, row, at=None):
        """Does a plain row; at is what a put row is called in the reached pairs."""
        getattr(self, "do_" + row[0])(*row[1:], *([at] if row[0] == "put" else []))

    def do_move(self, x, y):
        self.variables[x] = self.get(y)

    def do_none(self, x):
        self.variables[x] = None

    def do_new(self, x):
        self.variables[x] = self.new_thing()

    def do_look(self, x, y, field):
        thing = self.get(y)
        if thing is None:
            raise Stop("hollow", y)
        if thing.sources[field] is not None and thing.sources[field] not in self.looks:
            self.looks.append(thing.sources[field])
        self.variables[x] = thing.held[field]

    def do_put(self, x, field, y, at):
        thing = self.get(x)
        if thing is None:
            raise Stop("hollow", x)
        if thing.frozen:
            raise Stop("refused", x)
        for reader, start, depth in self.readers:
            if any(one is thing for one in self.near(start, depth)):
                self.reached.append((self.puts if at is None else at, reader))
        thing.held[field] = self.get(y)
        thing.sources[field] = None
        self.puts += 1

    def do_watch(self, reader, x, depth):
        self.readers.append((reader, self.get(x), depth))

    def do_copy(self, x, y, kind, depth):
        origin = self.get(y)
        if depth == 0 or origin is None:
            self.variables[x] = origin
            return
        ends = {}
        for length in range(depth):
            for way in itertools.product(self.fields, repeat=length):
                end = self.follow(origin, way)
                if end is not None:
                    ends[way] = end
        copies = {way: self.new_thing() for way in ends}
        for way, end in ends.items():
            for field in self.fields:
                copies[way].frozen = kind == "freeze"
                copies[way].held[field] = copies.get(way + (field,), end.held[field])
                copies[way].sources[field] = end.sources[field]
        self.variables[x] = copies[()]

    def follow(self, thing, way):
        for field in way:
            if thing is not None:
                thing = thing.held[field]
        return thing

    def near(self, start, depth):
        """The things at most depth fields away, some of them more than once."""
        ways = [way for length in range(depth + 1) for way in itertools.product(self.fields, repeat=length)]
        found = [self.follow(start, way) for way in ways]
        return [thing for thing in found if thing is not None]

    def value(self, name):
        thing = self.get(name)
        if thing is None:
            return ("none",)
        return thing.told + ((thing.frozen,) if thing.told[0] == "own" else ())

    def behind(self, names):
        """The objects and names of the normal form."""
        found = []
        queue = [self.get(name) for name in sorted(names)]
        while queue:
            thing = queue.pop(0)
            if thing is not None and thing not in found:
                found.append(thing)
                queue.extend(thing.held[field] for field in self.fields)
        numbers = {id(thing): number for number, thing in enumerate(found)}
        objects = [{field: numbers.get(id(thing.held[field])) for field in self.fields} for thing in found]
        return objects, {name: numbers.get(id(self.get(name))) for name in names}

    def run(self, rows, place=()):
        """Runs the rows of a program and returns what Run.end() tells."""
        for index, row in enumerate(rows):
            here = place + (index,)
            end = ("done", None)
            if row[0] == "same":
                branch = 0 if self.get(row[1]) is self.get(row[2]) else 1
                end = self.run(row[3 + branch], here + (branch,))
            elif row[0] == "empty":
                branch = 0 if self.get(row[1]) is None else 1
                end = self.run(row[2 + branch], here + (branch,))
            else:
                try:
                    self.do(row, here)
                except Stop as stop:
                    end = (stop.word, here)
            if end[0] != "done":
                return end
        return ("done", None)

    def attempt(self, rows):
        """This model with all rows done, the word, and the index of the row that stopped it."""
        other = copy.deepcopy(self)
        for index, row in enumerate(rows):
            try:
                other.do(row)
            except Stop as stop:
                return other, stop.word, index
        return other, "done", None


def model_of(heap):
    return Model(heap.fields, heap.objects(), heap.names())


def all_heaps(fields, names, most, least=0):
    """All heaps with so many objects."""
    for many in range(least, most + 1):
        values = [None] + list(range(many))
        for held in itertools.product(values, repeat=len(names)):
            for cells in itertools.product(itertools.product(values, repeat=len(fields)), repeat=many):
                yield Heap(fields, [dict(zip(fields, one)) for one in cells], dict(zip(names, held)))


def random_heap_parts(chance, fields, names, most):
    """The objects and names of a random heap."""
    many = chance.choice([0] + list(range(1, most + 1)) * 3)
    values = list(range(many)) * 4 + [None]
    objects = [{field: chance.choice(values) for field in fields} for _ in range(many)]
    return objects, {name: chance.choice(values) for name in names}


def random_plain_row(chance, fields, variables, reader):
    """A random plain row, with this reader if it is a watch row."""
    x, y = chance.choice(variables), chance.choice(variables)
    word = chance.choice("move none new look look look put put put put copy copy copy watch watch watch".split())
    return {
        "move": ("move", x, y),
        "none": ("none", x),
        "new": ("new", x),
        "look": ("look", x, y, chance.choice(fields)),
        "put": ("put", x, chance.choice(fields), y),
        "copy": ("copy", x, y, chance.choice(["freeze", "thaw"]), chance.randint(0, 4)),
        "watch": ("watch", reader, x, chance.randint(0, 4)),
    }[word]


def random_rows(chance, fields, variables, many):
    """Random rows of a program, at most so many in all, with at most 4 copy and 3 watch rows."""
    left = {"rows": many, "copy": 4, "watch": 3}

    def make(depth):
        rows = []
        while left["rows"] > 0 and chance.random() < 0.95 - 0.25 * depth:
            left["rows"] -= 1
            if depth < 3 and chance.random() < 0.2:
                x, y = chance.choice(variables), chance.choice(variables)
                head = ("same", x, y) if chance.random() < 0.6 else ("empty", x)
                rows.append(head + (make(depth + 1), make(depth + 1)))
                continue
            row = random_plain_row(chance, fields, variables, "rst"[left["watch"] - 1])
            if left.get(row[0], 1) > 0:
                if row[0] in left:
                    left[row[0]] -= 1
                rows.append(row)
        return rows

    return make(0)


def lively_program(chance, fields=("f",)):
    """A random program of which many runs come to the end, and many put rows reach a reader."""
    rows = [("new", "n")]
    for reader in "rst"[:chance.randint(1, 3)]:
        rows.append(("watch", reader, chance.choice("xyxyc"), chance.randint(0, 4)))
    for _ in range(chance.randint(0, 4)):
        rows.append(("copy", chance.choice("ccy"), chance.choice("xyc"), chance.choice(["freeze", "thaw", "thaw"]),
                     chance.randint(0, 3)))
    for _ in range(chance.randint(1, 4)):
        rows.append(("put", chance.choice("xxyync"), chance.choice(fields), chance.choice("xyncm")))
    for _ in range(chance.randint(0, 2)):
        rows.append(("look", chance.choice("xynm"), chance.choice("xyc"), chance.choice(fields)))
    return Program(["x", "y"], fields, rows[:1] + chance.sample(rows[1:], len(rows) - 1))


def chance_of(seed):
    return random.Random(seed)


def run_model(program, heap):
    """The model of the run of a program on a heap, and what Run.end() tells."""
    model = model_of(heap)
    return model, model.run(program.rows())


def reached_pairs(model):
    """What Run.reached() tells."""
    return sorted(set(model.reached))


def normal_facts(fields, names, starts):
    """What names and start values hold, with new labels in the order of the meeting, as tuples."""
    labels = []

    def meet(held):
        if held is not None and held not in labels:
            labels.append(held)

    for name in sorted(names):
        meet(names[name])
    for label in labels:
        for field in fields:
            meet(starts.get((label, field)))
    new = {label: number for number, label in enumerate(labels)}
    new[None] = None
    return in_order(fields, {name: new[held] for name, held in names.items()},
                    {(new[label], field): new[held] for (label, field), held in starts.items()})


def in_order(fields, names, edges):
    """Names and edges as tuples, in the order in which facts go through them."""
    places = {field: at for at, field in enumerate(fields)}
    told = [(label, places[field], held) for (label, field), held in edges.items()]
    return tuple(sorted(names.items(), key=lambda item: item[0])), tuple(sorted(told, key=lambda item: item[:2]))


def facts_of_run(program, heap):
    """The facts of the run on the heap, as normal_facts() gives them."""
    model, _ = run_model(program, heap)
    objects = heap.objects()
    return normal_facts(heap.fields, heap.names(), {(n, f): objects[n][f] for n, f in model.looks})


def facts_key(facts):
    """Facts of the package, as normal_facts() gives them."""
    return in_order(facts.fields, facts.names(), facts.edges())


def heap_of(fields, names, starts, many):
    """The heap of so many objects with these start values, all others None."""
    return Heap(fields, [{field: starts.get((number, field)) for field in fields} for number in range(many)], names)


def plain_choices(program, names=None, starts=None, many=0):
    """The pairs (names, starts) of all stories: one value after the other is chosen, and all is run anew for each."""
    names, starts = names or {}, starts or {}
    values = [None] + list(range(many + 1))
    left = [name for name in program.inputs if name not in names]
    if left:
        for value in values:
            yield from plain_choices(program, {**names, left[0]: value}, starts, many + (value == many))
        return
    model, _ = run_model(program, heap_of(program.fields, names, starts, many))
    fresh = [start for start in model.looks if start not in starts]
    if not fresh:
        yield names, starts
        return
    for value in values:
        yield from plain_choices(program, names, {**starts, fresh[0]: value}, many + (value == many))
