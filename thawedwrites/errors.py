"""The errors that the package raises."""


class ThawError(ValueError):
    """The base class of all errors of the package."""


class InvalidHeap(ThawError):
    """What was passed is no heap."""

    def __init__(self, part, where):
        super().__init__(f"no heap: {part} at {where}")
        self.part = part
        self.where = where


class InvalidProgram(ThawError):
    """What was passed is no program."""

    def __init__(self, part, place):
        super().__init__(f"no program: {part} at {place}")
        self.part = part
        self.place = place


class InvalidFacts(ThawError):
    """What was passed is no set of facts."""

    def __init__(self, part):
        super().__init__(f"no facts: {part}")
        self.part = part


class InvalidArgument(ThawError):
    """An argument of a function or a method is wrong."""

    def __init__(self, part):
        super().__init__(f"wrong argument: {part}")
        self.part = part


class InvalidText(ThawError):
    """A line of a text has no right form."""

    def __init__(self, line):
        super().__init__(f"no right form in line {line}")
        self.line = line


class LimitExceeded(ThawError):
    """There is more to go through than the limit allows."""

    def __init__(self, limit):
        super().__init__(f"more than {limit}")
        self.limit = limit


class RunError(ThawError):
    """A row cannot be done because of what a variable holds."""

    def __init__(self, name):
        super().__init__(f"because of what {name} holds")
        self.name = name


class Hollow(RunError):
    """The variable holds None where an object is needed."""


class Refused(RunError):
    """The variable holds a frozen object where one is written."""
