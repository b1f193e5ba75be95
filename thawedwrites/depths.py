"""Depths of copies: which of them keep every write from every reader."""

from thawedwrites.errors import InvalidArgument, LimitExceeded
from thawedwrites.reaches import never
from thawedwrites.rows import is_depth

# The most rows of depths that are gone through.
MOST_DEPTHS = 400


def is_safe(program, depths):
    """True if no write of the program with these depths of its copies can reach a reader."""
    return never(program.with_depths(depths))


def least_depths(program, *, most=2):
    """The ascending least safe rows of depths from 0 to most."""
    if not is_depth(most):
        raise InvalidArgument("most")
    rows = all_depths(len(program.copies()), most)
    if len(rows) > MOST_DEPTHS:
        raise LimitExceeded(MOST_DEPTHS)
    safe = [depths for depths in rows if is_safe(program, depths)]
    return [depths for depths in safe if not any([is_below(other, depths) for other in safe])]


def all_depths(many, most):
    """The ascending rows of so many depths from 0 to most."""
    rows = [()]
    for _ in range(many):
        rows = [row + (depth,) for row in rows for depth in range(most + 1)]
    return rows


def is_below(one, other):
    """True if one row of depths is another one and nowhere greater."""
    return one != other and all([depth <= limit for depth, limit in zip(one, other)])


def needless(program):
    """The places of the copies that can have depth 0 without another answer of never(), ascending."""
    answer = never(program)
    depths = [program.row(place)[-1] for place in program.copies()]
    return [place for at, place in enumerate(program.copies())
            if is_safe(program, depths[:at] + [0] + depths[at + 1:]) == answer]
