"""Logs: all that was done with a desk, which can be taken back and done again."""

from mendedruns.desks import Desk
from mendedruns.errors import InvalidCommand
from mendedruns.held import copied, pairs_of
from mendedruns.values import are_equal, kind_of

# How many parts an entry has that begins with this word.
ENTRY_PARTS = {"begin": 4, "advance": 3, "refresh": 2, "commit": 2, "commit_all": 2, "abort": 2, "tidy": 1}


class Log:
    """A desk, with its state at the beginning and the entries that were performed at it."""

    def __init__(self, state):
        self.current = Desk(state)
        self.first_state = dict(state)
        self.performed_entries = []

    def perform(self, entry):
        """Perform an entry at the desk, keep it, and return what the method returns."""
        result = result_of_entry(self.current, entry)
        self.performed_entries.append(copied_entry(entry))
        return result

    def desk(self):
        """Return a copy of the desk."""
        return self.current.copy()

    @property
    def entries(self):
        """The list of the entries."""
        return [copied_entry(entry) for entry in self.performed_entries]

    @property
    def start(self):
        """The state at the beginning."""
        return dict(self.first_state)

    def undo(self):
        """Take back the last entry, and return it, or None if there is none."""
        if len(self.performed_entries) == 0:
            return None
        before = replay(self.first_state, self.performed_entries[:-1])
        self.current = before
        return self.performed_entries.pop()

    def parts(self):
        """Return a tuple of all that is compared."""
        return (pairs_of(self.first_state), tuple([comparable(entry) for entry in self.performed_entries]))

    def __eq__(self, other):
        return isinstance(other, Log) and are_equal(self.parts(), other.parts())

    def __len__(self):
        return len(self.performed_entries)


def replay(state, entries):
    """Return the desk that begins with a state, behind a list of entries."""
    desk = Desk(state)
    for entry in entries:
        result_of_entry(desk, entry)
    return desk


def result_of_entry(desk, entry):
    """Perform an entry at a desk, and return what the method returns."""
    check_entry(entry)
    word = entry[0]
    if word == "tidy":
        return desk.tidy()
    if word == "commit_all":
        return desk.commit_all(list(entry[1]))
    if word == "begin":
        return desk.begin(entry[1], entry[2], arguments=entry[3])
    if word == "advance":
        return desk.advance(entry[1], entry[2])
    if word == "refresh":
        return desk.refresh(entry[1])
    if word == "commit":
        return desk.commit(entry[1])
    return desk.abort(entry[1])


def check_entry(entry):
    """Raise an error if something does not have the form of an entry."""
    if kind_of(entry) != "list" or len(entry) == 0 or kind_of(entry[0]) != "text":
        raise InvalidCommand(entry)
    if ENTRY_PARTS.get(entry[0]) != len(entry):
        raise InvalidCommand(entry)
    if entry[0] == "commit_all" and kind_of(entry[1]) != "list":
        raise InvalidCommand(entry)


def copied_entry(entry):
    """Return an entry with a copy of the dict in it."""
    return entry[:3] + (copied(entry[3]),) if entry[0] == "begin" else entry


def comparable(entry):
    """Return an entry with pairs in the place of the dict in it."""
    return entry[:3] + (pairs_of(entry[3]),) if entry[0] == "begin" else entry
