"""Walks: how a machine goes through the rows of a program."""

from thawedwrites.rows import branches, placed_rows


class Walk:
    """What a machine does with the rows of a program, up to the end of the run."""

    def __init__(self, rows, machine):
        self.machine = machine
        # The places of the put rows that were done, in order.
        self.written = []
        # The word that tells how the run ended, and the place of the row where it ended, or None.
        self.ending = self._do_rows(rows, ())

    def pairs(self):
        """The ascending pairs (place, reader): the put row at the place reached the reader."""
        return sorted([(self.written[put], reader) for put, reader in self.machine.reached()])

    def _do_rows(self, rows, place):
        """Does the rows behind the place and returns what the ending is."""
        for here, row in placed_rows(rows, place):
            word, where = self._do_row(row, here)
            if word != "done":
                return word, where
        return "done", None

    def _do_row(self, row, place):
        if row[0] in ("same", "empty"):
            branch = 0 if self._is_so(row) else 1
            return self._do_rows(branches(row)[branch], place + (branch,))
        word = self.machine.do(row)
        if word != "done":
            return word, place
        if row[0] == "put":
            self.written.append(place)
        return word, None

    def _is_so(self, row):
        """True if the first rows of a same or empty row are to be run."""
        held = self.machine.held(row[1])
        if row[0] == "same":
            return held == self.machine.held(row[2])
        return held is None
