"""A console: a desk that is worked with by lines of text."""

from mendedruns.checks import check_name
from mendedruns.desks import Desk
from mendedruns.errors import InvalidCommand, ParseError, UnknownName
from mendedruns.journals import journal
from mendedruns.texts import format_value, parse_program
from mendedruns.values import DIGITS, INTEGER_BOUND, MOST_DIGITS, has_only, kind_of


def begin_run(desk, words):
    """Begin a run of the program behind its name."""
    program = program_behind(words)
    desk.begin(words[0], program)
    return "ok"


def advance_run(desk, words):
    """Advance a run, and return the number of steps done."""
    name, count = words
    # A wrong count is an error only if there is such a run.
    desk.begun(name)
    return str(desk.advance(name, number_in(count)))


def refresh_run(desk, words):
    """Refresh a run, and return the number of steps done."""
    return str(desk.refresh(words[0]))


def commit_run(desk, words):
    """Commit a run, and return its ending."""
    return text_of_ending(desk.commit(words[0]))


def abort_run(desk, words):
    """Abort a run."""
    desk.abort(words[0])
    return "ok"


def show_key(desk, words):
    """Return the value of a key now."""
    state = desk.state()
    return format_value(state[words[0]]) if words[0] in state else "-"


def list_open_runs(desk, words):
    """Return the names of the open runs."""
    return " ".join(desk.active) if len(desk) > 0 else "-"


def watch_program(desk, words):
    """Begin a view of the program behind its name."""
    program = program_behind(words)
    desk.watch(words[0], program)
    return "ok"


def show_view(desk, words):
    """Return the ending of a view."""
    views = desk.views
    if words[0] not in views:
        raise UnknownName(words[0])
    return text_of_ending(views[words[0]][0])


def show_journal(desk, words):
    """Return the journal of the store, without its last line feed."""
    return journal(desk.store)[:-1]


def show_moment(desk, words):
    """Return the moment now."""
    return str(desk.moment)


# Under the first word of each command: how many words stand behind it, and what executes it.
COMMANDS = {
    "advance": (2, advance_run), "refresh": (1, refresh_run), "commit": (1, commit_run), "abort": (1, abort_run),
    "show": (1, show_key), "open": (0, list_open_runs), "view": (1, show_view), "journal": (0, show_journal),
    "moment": (0, show_moment),
}
# Behind the first word of these stands a name, and any number of words.
PROGRAM_COMMANDS = {"begin": begin_run, "watch": watch_program}


class Console:
    """A desk that begins with an empty state."""

    def __init__(self):
        self.current = Desk({})

    def execute(self, line):
        """Execute a command line, and return its answer."""
        if kind_of(line) != "text":
            raise InvalidCommand(line)
        words = line.split(" ")
        action = action_of(line, words[0], len(words) - 1)
        return action(self.current, words[1:])

    def __len__(self):
        return len(self.current)


def action_of(line, word, count):
    """Return what executes a line with this first word, and so many words behind it."""
    if word in PROGRAM_COMMANDS and count >= 1:
        return PROGRAM_COMMANDS[word]
    if word not in COMMANDS:
        raise InvalidCommand(line)
    wanted, action = COMMANDS[word]
    if count != wanted:
        raise InvalidCommand(line)
    return action


def program_behind(words):
    """Return the program in the words behind a name."""
    check_name(words[0])
    return parse_program(" ".join(words[1:]))


def number_in(word):
    """Return the number in a word, or one that is large enough for each run if it has too many digits."""
    if not has_only(word, DIGITS) or word == "" or (word.startswith("0") and word != "0"):
        raise ParseError(word)
    return int(word) if len(word) <= MOST_DIGITS else INTEGER_BOUND


def text_of_ending(ending):
    """Return the word and the text of the value of an ending."""
    return f"{ending[0]} {format_value(ending[1])}"
