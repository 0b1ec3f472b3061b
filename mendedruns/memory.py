"""What a run sees: its variables, and the state with what it wrote and deleted itself."""


class Memory:
    """The variables and the keys that a run sees, each with the source of its value."""

    def __init__(self, state, arguments):
        self.before = state
        # The keys of the state in ascending order, sorted only when the run scans.
        self.ordered = None
        given = {} if arguments is None else arguments
        # From names and from keys to tuples of a value and its source; None is the value of a deleted key.
        self.variables = {name: (given[name], "argument") for name in given}
        self.changes = {}

    def look_up(self, label):
        """Return a tuple of what is found for the label of an input, and its source."""
        kind, word = label
        if kind == "name":
            return self.variables.get(word, (None, None))
        if kind == "key":
            value, source = self.changes.get(word, (self.before.get(word), "store"))
            return ("" if value is None else value, source)
        found = self.keys_with(word)
        return (found, tuple([self.changes[key][1] if key in self.changes else "store" for key in found]))

    def keys_with(self, prefix):
        """Return the ascending tuple of the keys that are there and begin with a prefix."""
        if self.ordered is None:
            self.ordered = sorted(self.before)
        found = [key for key in beginning_with(self.ordered, prefix) if key not in self.changes]
        for key, (value, source) in self.changes.items():
            if value is not None and key.startswith(prefix):
                found.append(key)
        return tuple(sorted(found))

    def assign(self, name, value, source):
        """Give a variable a value."""
        self.variables[name] = (value, source)

    def put(self, key, value, source):
        """Write a value under a key, or delete it if the value is None."""
        self.changes[key] = (value, source)

    def snapshot(self):
        """Return all that a try may have to give up."""
        return (dict(self.variables), dict(self.changes))

    def go_back(self, snapshot):
        """Give up all that has come since a snapshot."""
        self.variables, self.changes = snapshot

    def exchange(self, variables):
        """Put other variables in the place of those now, and return these."""
        left = self.variables
        self.variables = variables
        return left


def beginning_with(ordered, prefix):
    """Return the list of those of the ascending keys that begin with a prefix."""
    # The sign ~ stands behind all letters and digits.
    return ordered[first_from(ordered, prefix):first_from(ordered, prefix + "~")]


def first_from(ordered, key):
    """Return the index of the first of the ascending keys that is not less than a key."""
    low = 0
    high = len(ordered)
    while low < high:
        middle = (low + high) // 2
        if ordered[middle] < key:
            low = middle + 1
        else:
            high = middle
    return low
