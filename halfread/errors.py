"""The errors that halfread raises."""


class ReadError(ValueError):
    """What all errors of halfread derive from."""


class NoWords(ReadError):
    """The words do not make a code."""


class NoCode(ReadError):
    """A code is required."""


class NoValue(ReadError):
    """A value of the code is required."""


class NoWord(ReadError):
    """A word of the code's length is required."""


class NoOrder(ReadError):
    """A tuple of all places is required."""


class NoPlaces(ReadError):
    """An ascending tuple of places is required."""


class NoText(ReadError):
    """The text of a code is required."""


class NoSpan(ReadError):
    """A span is required."""


class NoNumber(ReadError):
    """An integer within the limits is required."""


class NoBridge(ReadError):
    """A bridge is required."""


class NoState(ReadError):
    """A state of the bridge is required."""


class NoBeat(ReadError):
    """A beat is required."""


class NoLap(ReadError):
    """A lap is required."""


class NoLook(ReadError):
    """What is said to be read cannot be read."""


class NothingDone(ReadError):
    """There is no tick to take back."""


class TooMuch(ReadError):
    """The limit does not let another thing be put."""


class TooMany(ReadError):
    """More comes up than is looked at."""

    def __init__(self, limit):
        super().__init__(f"more than {limit} come up")
        self.limit = limit


class Broken(ReadError):
    """The bridge breaks."""

    def __init__(self, kind):
        super().__init__(f"the bridge breaks: {kind}")
        self.kind = kind
