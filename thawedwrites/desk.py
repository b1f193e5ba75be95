"""Desks: a program that is changed row by row."""

from thawedwrites.errors import InvalidArgument
from thawedwrites.programs import Program
from thawedwrites.reaches import never
from thawedwrites.rows import branches, is_place, placed_rows
from thawedwrites.stories import stories, story_of


class Desk:
    """Holds a program, the changes that led to it, and those that were taken back."""

    def __init__(self, program):
        # The programs with the answers of never(), in the order of the changes.
        self._versions = [(program, never(program))]
        # Where the current one stands; those behind it were taken back.
        self._at = 0
        self._deeds = 0
        self._turns = []

    def __getitem__(self, place):
        return self.current().row(place)

    def __setitem__(self, place, row):
        if not is_place(place) or place not in self.current().places():
            raise InvalidArgument("place")
        self._change(place, 1, [row])

    def __iter__(self):
        raise TypeError("a desk is not iterated over")

    def __call__(self, heap):
        return story_of(self.current(), heap)

    def current(self):
        """The program as it is now."""
        return self._versions[self._at][0]

    def stories(self):
        """The stories of the program as it is now."""
        return stories(self.current())

    def never(self):
        """True if no write of the program as it is now can reach a reader."""
        return self._versions[self._at][1]

    def insert(self, place, row):
        """Puts the row ahead of the one at the place, or behind the last one of a list."""
        if not is_place(place) or place not in insert_places(self.current().rows(), ()):
            raise InvalidArgument("place")
        self._change(place, 0, [row])

    def delete(self, place):
        """Takes the row at the place out and returns it."""
        row = self[place]
        self._change(place, 1, [])
        return row

    def undo(self):
        """Takes the last change back and returns True, or returns False if there is none."""
        if self._at == 0:
            return False
        self._turn(self._at - 1)
        return True

    def redo(self):
        """Makes the change again that was taken back last and returns True, or returns False if there is none."""
        if self._at == len(self._versions) - 1:
            return False
        self._turn(self._at + 1)
        return True

    def turns(self):
        """The pairs (deed, answer) of the deeds after which never() has another answer than ahead of them."""
        return list(self._turns)

    def _change(self, place, many, added):
        """Puts the added rows in the place of so many rows from the place on."""
        program = self.current()
        rows = program.rows()
        inside = list_of(rows, place)
        inside[place[-1]:place[-1] + many] = added
        changed = Program(program.inputs, program.fields, rows, outputs=program.outputs)
        # What can raise stands ahead of what changes the desk.
        answer = never(changed)
        self._versions = self._versions[:self._at + 1] + [(changed, answer)]
        self._turn(self._at + 1)

    def _turn(self, at):
        """Makes another version the current one; this is a deed."""
        before = self.never()
        self._at = at
        self._deeds += 1
        if self.never() != before:
            self._turns.append((self._deeds, self.never()))


def list_of(rows, place):
    """The very list, the rows or one inside them, in which the place lies."""
    inside = rows
    for at in range(0, len(place) - 1, 2):
        inside = branches(inside[place[at]])[place[at + 1]]
    return inside


def insert_places(rows, place):
    """The places, behind the given one, of these rows and all rows inside, and those behind the last one of a list."""
    found = [place + (index,) for index in range(len(rows) + 1)]
    for here, row in placed_rows(rows, place):
        for branch, inner in enumerate(branches(row)):
            found.extend(insert_places(inner, here + (branch,)))
    return found
