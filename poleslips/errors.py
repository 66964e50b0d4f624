"""The errors of the package."""


class WheelError(ValueError):
    """The base of all errors."""


class InvalidPull(WheelError):
    """A pull is wrong."""


class InvalidPlace(WheelError):
    """A place is wrong."""


class InvalidTick(WheelError):
    """A tick is wrong."""


class InvalidNumber(WheelError):
    """Another number is wrong."""


class Impossible(WheelError):
    """What was asked for does not exist."""


class NothingToUndo(WheelError):
    """No call is left to take back."""


class InvalidCommand(WheelError):
    """A command has none of the forms."""


class InvalidWheel(WheelError):
    """A wheel is wrong: at an index, or as a whole (None)."""

    def __init__(self, index):
        WheelError.__init__(self, f"wrong wheel, index {index}")
        self.index = index


class InvalidDrive(WheelError):
    """A drive is wrong: at an index, or as a whole (None)."""

    def __init__(self, index):
        WheelError.__init__(self, f"wrong drive, index {index}")
        self.index = index


class InvalidStart(WheelError):
    """A start is wrong: at an index, or as a whole (None)."""

    def __init__(self, index):
        WheelError.__init__(self, f"wrong start, index {index}")
        self.index = index


class InvalidLoads(WheelError):
    """A loads list is wrong: at an index, or as a whole (None)."""

    def __init__(self, index):
        WheelError.__init__(self, f"wrong loads, index {index}")
        self.index = index


class InvalidSightings(WheelError):
    """Sightings are wrong: at an index, or as a whole (None)."""

    def __init__(self, index):
        WheelError.__init__(self, f"wrong sightings, index {index}")
        self.index = index


class TooLarge(WheelError):
    """A result would have more items than the limit."""

    def __init__(self, limit):
        WheelError.__init__(self, f"more than {limit} items")
        self.limit = limit


class InvalidSyntax(WheelError):
    """A text is wrong: at a word, or no string (None)."""

    def __init__(self, word):
        WheelError.__init__(self, f"wrong text, word {word}")
        self.word = word
