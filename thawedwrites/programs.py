"""Programs: rows over variables, with inputs, fields and outputs."""

from thawedwrites.errors import InvalidArgument, InvalidProgram
from thawedwrites.rows import copied_row, copied_rows, has_form, has_names, inner_rows, is_depth, is_place
from thawedwrites.rows import placed_rows, row_variables, rows_with_depths
from thawedwrites.words import are_fields, are_words

MOST_INPUTS = 3
MOST_OUTPUTS = 3
MOST_ROWS = 20
MOST_VARIABLES = 6
MOST_COPIES = 4
MOST_WATCHES = 3
# A place with 4 row indexes has the 3 numbers of branches between them, too.
LONGEST_PLACE = 7


class Program:
    """A list of rows over variables; it never changes."""

    def __init__(self, inputs, fields, rows, *, outputs=()):
        if not are_words(inputs, 1, MOST_INPUTS):
            raise InvalidProgram("inputs", ())
        if not are_fields(fields):
            raise InvalidProgram("fields", ())
        if not are_words(outputs, 0, MOST_OUTPUTS):
            raise InvalidProgram("outputs", ())
        if not isinstance(rows, list):
            raise InvalidProgram("form", ())
        pairs = checked_rows(rows, fields)
        variables = all_variables(inputs, pairs, outputs)
        check_many(pairs, variables)
        self.inputs = tuple(inputs)
        self.fields = tuple(fields)
        self.outputs = tuple(outputs)
        self._rows = copied_rows(rows)
        # From each place to its row, in depth-first order, so ascending.
        self._table = {place: copied_row(row) for place, row in pairs}
        self._variables = variables

    def __eq__(self, other):
        return (isinstance(other, Program) and self.inputs == other.inputs and self.fields == other.fields
                and self.outputs == other.outputs and self._rows == other._rows)

    def __or__(self, other):
        if not isinstance(other, Program):
            return NotImplemented
        if self.inputs != other.inputs or self.fields != other.fields:
            raise InvalidArgument("other")
        return Program(self.inputs, self.fields, self._rows + other._rows, outputs=other.outputs)

    def rows(self):
        """The rows as they were passed."""
        return copied_rows(self._rows)

    def row(self, place):
        """The row at the place."""
        if not is_place(place) or place not in self._table:
            raise InvalidArgument("place")
        return copied_row(self._table[place])

    def places(self):
        """The places of all rows, ascending."""
        return list(self._table)

    def copies(self):
        """The places of the copy rows, ascending."""
        return self._places_of("copy")

    def writes(self):
        """The places of the put rows, ascending."""
        return self._places_of("put")

    def readers(self):
        """The pairs (reader, place) of the watch rows, in the order of their places."""
        return [(self._table[place][1], place) for place in self._places_of("watch")]

    def variables(self):
        """All variables, each once: inputs, then those of the rows, then outputs."""
        return list(self._variables)

    def with_depths(self, depths):
        """The program whose copy rows have these depths, in the order of their places."""
        places = self.copies()
        if not isinstance(depths, (list, tuple)) or len(depths) != len(places):
            raise InvalidArgument("depths")
        if not all([is_depth(depth) for depth in depths]):
            raise InvalidArgument("depths")
        told = {place: depth for place, depth in zip(places, depths)}
        rows = rows_with_depths(self._rows, (), told)
        return Program(self.inputs, self.fields, rows, outputs=self.outputs)

    def _places_of(self, word):
        return [place for place, row in self._table.items() if row[0] == word]


def checked_rows(rows, fields):
    """The pairs (place, row) of all rows, depth-first; raises the error of the first wrong row."""
    found = []
    readers = []
    # The rows that are still to be gone through, the next one last, in a list of this function's own.
    ahead = list(placed_rows(rows, ())[::-1])
    while ahead:
        place, row = ahead.pop()
        check_row(row, place, fields, readers)
        if row[0] == "watch":
            readers.append(row[1])
        found.append((place, row))
        ahead.extend(inner_rows(row, place)[::-1])
    return found


def check_row(row, place, fields, readers):
    """Raises the error of the row itself; readers are those of the rows ahead of it."""
    if len(place) > LONGEST_PLACE:
        raise InvalidProgram("deep", place)
    if not has_form(row):
        raise InvalidProgram("form", place)
    if not has_names(row, fields):
        raise InvalidProgram("name", place)
    if row[0] == "watch" and row[1] in readers:
        raise InvalidProgram("reader", place)


def all_variables(inputs, pairs, outputs):
    """The inputs, the variables of the rows and the outputs, each once."""
    told = list(inputs)
    for _, row in pairs:
        told.extend(row_variables(row))
    told.extend(outputs)
    return list({name: True for name in told})


def check_many(pairs, variables):
    """Raises InvalidProgram if there is too much of something."""
    words = [row[0] for _, row in pairs]
    if len(words) > MOST_ROWS or len(variables) > MOST_VARIABLES:
        raise InvalidProgram("many", ())
    if words.count("copy") > MOST_COPIES or words.count("watch") > MOST_WATCHES:
        raise InvalidProgram("many", ())
