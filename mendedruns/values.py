"""Values, keys, names and states, and when two things are equal."""

LETTERS = "abcdefghijklmnopqrstuvwxyz"
DIGITS = "0123456789"
LETTERS_AND_DIGITS = "abcdefghijklmnopqrstuvwxyz0123456789"
INTEGER_BOUND = 10 ** 60
MOST_DIGITS = 60
LONGEST_TEXT = 60
LONGEST_NAME = 12
DEEPEST_LIST = 5
MOST_VALUES = 50


def kind_of(value):
    """Return a word for what something is: only things of the same kind can be equal."""
    if value is None:
        return "none"
    if isinstance(value, bool):
        return "truth"
    if isinstance(value, int):
        return "integer"
    if isinstance(value, str):
        return "text"
    if isinstance(value, tuple):
        return "list"
    return "other"


def is_value(value):
    """Return whether something is a value: an integer, a text or a list."""
    if kind_of(value) == "list":
        return is_list(value)
    return is_plain_value(value)


def is_plain_value(value):
    """Return whether something is an integer of few enough digits or a text."""
    if kind_of(value) == "integer":
        return -INTEGER_BOUND < value < INTEGER_BOUND
    return is_text(value)


def is_text(value):
    """Return whether something is a text."""
    if kind_of(value) != "text" or len(value) > LONGEST_TEXT:
        return False
    return has_only(value, LETTERS_AND_DIGITS)


def has_only(text, characters):
    """Return whether a str has no other characters than these."""
    # Strip stops at the first other character, so nothing is left only if there is none.
    return text.strip(characters) == ""


def is_list(value):
    """Return whether a tuple is a list, neither too deep nor with too many values in it."""
    lists = [value]
    count = 0
    # Level by level, so that lists of lists of lists, however many, are not all looked at.
    for level in range(DEEPEST_LIST):
        count += sum([len(inner) for inner in lists])
        if count > MOST_VALUES:
            return False
        items = [item for inner in lists for item in inner]
        lists = [item for item in items if kind_of(item) == "list"]
        plain = [item for item in items if kind_of(item) != "list"]
        if not all([is_plain_value(item) for item in plain]):
            return False
    return len(lists) == 0


def is_key(value):
    """Return whether something is a key: a text of at least one letter or digit."""
    return is_text(value) and len(value) > 0


def is_name(value):
    """Return whether something is a name: a text of 1 to 12 lowercase letters."""
    return is_key(value) and len(value) <= LONGEST_NAME and has_only(value, LETTERS)


def is_state(value):
    """Return whether something is a state: a dict from keys to values."""
    if not isinstance(value, dict):
        return False
    return all([is_key(key) and is_value(held) for key, held in value.items()])


def is_variables(value):
    """Return whether something is a state that can hold variables: its keys are names."""
    return is_state(value) and all([is_name(key) for key in value])


def are_equal(one, other):
    """Return whether two things are equal, each only to things of its own kind."""
    pairs = [(one, other)]
    while pairs:
        first, second = pairs.pop()
        kind = kind_of(first)
        if kind == "other" or kind != kind_of(second):
            return False
        if kind == "list":
            if len(first) != len(second):
                return False
            pairs.extend(list(zip(first, second)))
        elif first != second:
            return False
    return True
