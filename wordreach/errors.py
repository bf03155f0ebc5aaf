"""The errors of the package; each keeps the value that it is about."""


class ReachError(ValueError):
    """The base of all errors of the package."""


class UnknownName(ReachError):
    """A name is not known where it stands."""

    def __init__(self, value):
        self.value = value


class NoPlace(ReachError):
    """A value is not a place of the shape."""

    def __init__(self, value):
        self.value = value


class InvalidWords(ReachError):
    """A value is not a tuple of words for the inputs of the shape."""

    def __init__(self, value):
        self.value = value


class NotComputed(ReachError):
    """A set does not compute the result bit at a place."""

    def __init__(self, value):
        self.value = value


class TooLow(ReachError):
    """A place lies below the least place of a tree."""

    def __init__(self, value):
        self.value = value


class TooMany(ReachError):
    """There are too many input bits to count functions of them."""

    def __init__(self, value):
        self.value = value


class HasDown(ReachError):
    """A program cannot be narrowed: it moves bits down."""

    def __init__(self, index):
        self.index = index


class InvalidOperand(ReachError):
    """A value cannot be an operand where it stands."""

    def __init__(self, value):
        self.value = value


class InvalidShape(ReachError):
    """A value is not a shape."""

    def __init__(self, value):
        self.value = value


class ParseError(ReachError):
    """A text is wrong from an index on."""

    def __init__(self, index):
        self.index = index


class CommandError(ReachError):
    """A command has none of the known forms."""

    def __init__(self, command):
        self.command = command


class EmptyProgram(ReachError):
    """There is no instruction yet."""


class Full(ReachError):
    """There is no room for more instructions."""

    def __init__(self, value):
        self.value = value


class NothingToUndo(ReachError):
    """There is no change left to take back."""
