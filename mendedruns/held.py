"""What a desk holds: its open and ended runs and its views, which are replaced and never changed."""


class OpenRun:
    """A run that has begun and not ended.

    whole is the trace of the whole run at the state of the moment since, of which so many
    steps are shown: no later commit can change what the run does at this state.
    """

    def __init__(self, program, arguments, since, whole, shown, spent):
        self.program = program
        self.arguments = copied(arguments)
        self.since = since
        self.whole = whole
        self.shown = min(shown, len(whole))
        self.spent = spent

    def beginning(self):
        """Return the trace of the run so far."""
        return self.whole.first(self.shown)

    def summary(self):
        """Return a tuple of all that is compared."""
        return (self.program, pairs_of(self.arguments), self.since, self.shown, self.whole.parts(), self.spent)


class EndedRun:
    """A run that was committed, with the moment that its commit made and its ending there."""

    def __init__(self, program, arguments, made, whole, spent, closing):
        self.program = program
        self.arguments = copied(arguments)
        self.made = made
        self.whole = whole
        self.spent = spent
        self.closing = closing

    def summary(self):
        """Return a tuple of all that is compared."""
        return (self.program, pairs_of(self.arguments), self.made, self.whole.parts(), self.spent, self.closing)


class View:
    """A program with its trace at the state now."""

    def __init__(self, program, arguments, whole, spent):
        self.program = program
        self.arguments = copied(arguments)
        self.whole = whole
        self.spent = spent

    def summary(self):
        """Return a tuple of all that is compared."""
        return (self.program, pairs_of(self.arguments), self.whole.parts(), self.spent)


def copied(arguments):
    """Return a copy of the arguments of a program, or None if there are none."""
    return None if arguments is None else dict(arguments)


def pairs_of(arguments):
    """Return the tuple of the pairs of a name and its value, in ascending order, or None."""
    return None if arguments is None else tuple(sorted(arguments.items()))
