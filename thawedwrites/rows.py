"""The rows of a program: their forms, their parts and the rows inside them."""

from thawedwrites.words import is_between, is_integer, is_one_of, is_word

# What stands behind the first item of each kind of row.
FORMS = {
    "move": ("variable", "variable"),
    "none": ("variable",),
    "new": ("variable",),
    "look": ("variable", "variable", "field"),
    "put": ("variable", "field", "variable"),
    "copy": ("variable", "variable", "kind", "depth"),
    "watch": ("reader", "variable", "depth"),
    "same": ("variable", "variable", "rows", "rows"),
    "empty": ("variable", "rows", "rows"),
}
KINDS = ("freeze", "thaw")
MOST_DEPTH = 4


def has_form(row):
    """True if the value is a tuple that is built as one of the nine kinds of rows."""
    if not isinstance(row, tuple) or len(row) == 0:
        return False
    if not isinstance(row[0], str) or row[0] not in FORMS:
        return False
    roles = FORMS[row[0]]
    if len(row) != len(roles) + 1:
        return False
    return all([isinstance(part, list) for part, role in zip(row[1:], roles) if role == "rows"])


def has_names(row, fields):
    """True if the words and depths of a row that has a form are such as may stand there."""
    return all([is_right(part, role, fields) for part, role in zip(row[1:], FORMS[row[0]])])


def is_right(part, role, fields):
    """True if the part of a row has the role that FORMS tells; rows are not looked at."""
    if role == "field":
        return is_one_of(part, fields)
    if role == "kind":
        return is_one_of(part, KINDS)
    if role == "depth":
        return is_depth(part)
    return role == "rows" or is_word(part)


def is_depth(value):
    """True if the value may be the depth of a copy or watch row."""
    return is_between(value, 0, MOST_DEPTH)


def is_place(value):
    """True if the value is a tuple of integers; True is equal to 1, but no place has it."""
    return isinstance(value, tuple) and all([is_integer(part) for part in value])


def row_variables(row):
    """The variables of the row itself, from left to right."""
    return [part for part, role in zip(row[1:], FORMS[row[0]]) if role == "variable"]


def branches(row):
    """The lists of rows inside the row: two for same and empty, otherwise none."""
    return [part for part, role in zip(row[1:], FORMS[row[0]]) if role == "rows"]


def with_branches(row, lists):
    """The row with other lists of rows inside, as many as before."""
    return row[:len(row) - len(lists)] + tuple(lists)


def copied_rows(rows):
    """The rows in a new list, with new lists of rows inside them."""
    return [copied_row(row) for row in rows]


def copied_row(row):
    """The row with new lists of rows inside."""
    return with_branches(row, [copied_rows(rows) for rows in branches(row)])


def placed_rows(rows, place):
    """The pairs (place, row) of a list of rows; place is what stands ahead of the last index."""
    return [(place + (index,), row) for index, row in enumerate(rows)]


def steps_of(rows, place):
    """The steps (place, row, inner) of a list of rows; inner has the steps of each list of rows inside the row."""
    return [(here, row, [steps_of(inner, here + (branch,)) for branch, inner in enumerate(branches(row))])
            for here, row in placed_rows(rows, place)]


def inner_rows(row, place):
    """The pairs (place, row) of the rows directly inside the row at the place, ascending."""
    found = []
    for branch, rows in enumerate(branches(row)):
        found.extend(placed_rows(rows, place + (branch,)))
    return found


def rows_with_depths(rows, place, depths):
    """The rows with the depths that the dict tells for the places of copy rows."""
    return [row_with_depths(row, here, depths) for here, row in placed_rows(rows, place)]


def row_with_depths(row, place, depths):
    """The row at the place with the depths that the dict tells for the places of copy rows."""
    if row[0] == "copy":
        return row[:-1] + (depths[place],)
    lists = [rows_with_depths(rows, place + (branch,), depths) for branch, rows in enumerate(branches(row))]
    return with_branches(row, lists)
