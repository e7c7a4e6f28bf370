"""The errors of the package.

Their messages are fixed and show no field: a field may be any value, also an
integer that Python refuses to write out.
"""


class LoopError(ValueError):
    """An argument that is refused."""


class BadCode(LoopError):
    """A value that is no code; place tells what of it is wrong first."""

    def __init__(self, place):
        super().__init__("this is no code")
        self.place = place


class BadLot(LoopError):
    """A value that is no lot of jumps."""

    def __init__(self, value):
        super().__init__("this is no lot of jumps")
        self.value = value


class BadLoop(LoopError):
    """A value that is no loop of the code."""

    def __init__(self, value):
        super().__init__("this is no loop of the code")
        self.value = value


class BadRun(LoopError):
    """A value that is no run of the code."""

    def __init__(self, value):
        super().__init__("this is no run of the code")
        self.value = value


class BadNumber(LoopError):
    """A value that is no number, or no numbers, of the kind that is asked for."""

    def __init__(self, value):
        super().__init__("this is no number that can stand here")
        self.value = value


class BadPaper(LoopError):
    """A value that is no paper; place tells what of it is wrong first."""

    def __init__(self, place):
        super().__init__("this paper does not hold")
        self.place = place


class BadText(LoopError):
    """A text that is no code's; line is the number of the first wrong line."""

    def __init__(self, line):
        super().__init__("this is no text of a code")
        self.line = line


class SeveralDoors(LookupError):
    """Some loop has no door; paper shows it."""

    def __init__(self, paper):
        super().__init__("some loop has no door")
        self.paper = paper


class NoCut(LookupError):
    """There is no cut; loop is one that cannot be met."""

    def __init__(self, loop):
        super().__init__("some loop cannot be met")
        self.loop = loop
