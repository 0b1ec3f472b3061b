"""The errors of the package.

Their messages never show the value that was refused: it may be any object,
and not every object can be written out.
"""


class RunError(ValueError):
    """The base class of the errors about arguments of a wrong kind or form."""


class InvalidProgram(RunError):
    """A program is none; place is that of its first wrong statement."""

    def __init__(self, place):
        super().__init__("not a program")
        self.place = place


class InvalidState(RunError):
    """A value is no state, or no object of the class that is asked for."""

    def __init__(self, value):
        super().__init__("not a state")
        self.value = value


class InvalidArguments(RunError):
    """A value is neither None nor a state of variables."""

    def __init__(self, value):
        super().__init__("not the arguments of a program")
        self.value = value


class InvalidExpression(RunError):
    """A value is no expression."""

    def __init__(self, value):
        super().__init__("not an expression")
        self.value = value


class InvalidTrace(RunError):
    """A value is no trace."""

    def __init__(self, value):
        super().__init__("not a trace")
        self.value = value


class InvalidCount(RunError):
    """A value is no integer of at least 0."""

    def __init__(self, value):
        super().__init__("not a count")
        self.value = value


class InvalidName(RunError):
    """A value is no name, or no key where a key is asked for."""

    def __init__(self, value):
        super().__init__("not a name")
        self.value = value


class InvalidCommand(RunError):
    """A line is no command."""

    def __init__(self, line):
        super().__init__("not a command")
        self.line = line


class ParseError(RunError):
    """A text cannot be read."""

    def __init__(self, text):
        super().__init__("not a text that can be read")
        self.text = text


class Broken(RunError):
    """A constraint is broken; index is its index."""

    def __init__(self, index):
        super().__init__("a constraint is broken")
        self.index = index


class UnknownName(KeyError):
    """Nothing has this name."""

    def __init__(self, name):
        super().__init__("nothing has this name")
        self.name = name


class NameTaken(LookupError):
    """Something has this name already."""

    def __init__(self, name):
        super().__init__("something has this name already")
        self.name = name


class UnknownMoment(IndexError):
    """The state of a moment is not kept."""

    def __init__(self, value):
        super().__init__("not a moment that is kept")
        self.value = value


class LimitExceeded(OverflowError):
    """There would be too many of a thing; count is how many."""

    def __init__(self, count):
        super().__init__("there would be too many")
        self.count = count
