"""The errors that the program raises; each keeps its arguments under their names."""


class InvalidHistory(ValueError):
    """A value is no history: index is that of the first wrong part, or None."""

    def __init__(self, index):
        self.index = index


class InvalidRules(ValueError):
    """A value is no table of rules: index is that of the first wrong part, or None."""

    def __init__(self, index):
        self.index = index


class InvalidWay(ValueError):
    """A value is no way: index is that of the first wrong part, or None."""

    def __init__(self, index):
        self.index = index


class InvalidWeights(ValueError):
    """A value is no tuple of weights: index is that of the first wrong part, or None."""

    def __init__(self, index):
        self.index = index


class InvalidOptions(ValueError):
    """A value is no tuple of options: index is that of the first wrong part, or None."""

    def __init__(self, index):
        self.index = index


class InvalidLog(ValueError):
    """A value is no log: index is that of the first wrong part, or None."""

    def __init__(self, index):
        self.index = index


class InvalidNames(ValueError):
    """A value is no tuple of names: index is that of the first wrong part, or None."""

    def __init__(self, index):
        self.index = index


class InvalidClaim(ValueError):
    """A value is no claim."""


class ParseError(ValueError):
    """A text cannot be read: line is the index of the line where that shows."""

    def __init__(self, line):
        self.line = line


class UnknownName(LookupError):
    """A value is no name of a row."""

    def __init__(self, value):
        self.value = value


class UnknownWord(LookupError):
    """A value is none of the words that are known here."""

    def __init__(self, value):
        self.value = value


class CannotStep(RuntimeError):
    """A step cannot be done: index is its place in the weaving, or None for a single one."""

    def __init__(self, index):
        self.index = index


class Refused(RuntimeError):
    """Deeds are refused: index is that of the first refused one, reason the name of its error."""

    def __init__(self, index, reason):
        self.index = index
        self.reason = reason


class NothingDone(RuntimeError):
    """There is no deed to undo."""


class LimitExceeded(OverflowError):
    """More things than limit would have to be counted."""

    def __init__(self, limit):
        self.limit = limit
