"""Walks: how a machine goes through the rows of a program."""


class Walk:
    """What a machine does with the rows of a program, told as steps, up to the end of the run."""

    def __init__(self, steps, machine):
        self.machine = machine
        # The places of the put rows that were done, in order.
        self.written = []
        # The word that tells how the run ended, and the place of the row where it ended, or None.
        self.ending = self._do_steps(steps)

    def pairs(self):
        """The ascending pairs (place, reader): the put row at the place reached the reader."""
        return sorted([(self.written[put], reader) for put, reader in self.machine.reached()])

    def _do_steps(self, steps):
        """Does the rows and returns what the ending is."""
        for place, row, inner in steps:
            if inner:
                word, where = self._do_steps(inner[0] if self._is_so(row) else inner[1])
            else:
                word, where = self.machine.do(row), place
            if word != "done":
                return word, where
            if row[0] == "put":
                self.written.append(place)
        return "done", None

    def _is_so(self, row):
        """True if the first rows of a same or empty row are to be run."""
        held = self.machine.held(row[1])
        if row[0] == "same":
            return held == self.machine.held(row[2])
        return held is None
