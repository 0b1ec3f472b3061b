"""Raises the errors for arguments of a wrong form."""

from mendedruns.errors import InvalidArguments, InvalidCount, InvalidName, InvalidState, ParseError
from mendedruns.values import is_key, is_name, is_state, is_variables, kind_of


def check_state(state):
    """Raise an error if something is no state."""
    if not is_state(state):
        raise InvalidState(state)


def check_arguments(arguments):
    """Raise an error if something is neither None nor a state that holds variables."""
    if arguments is not None and not is_variables(arguments):
        raise InvalidArguments(arguments)


def check_count(count):
    """Raise an error if something is no integer of at least 0."""
    if kind_of(count) != "integer" or count < 0:
        raise InvalidCount(count)


def check_name(name):
    """Raise an error if something is no name."""
    if not is_name(name):
        raise InvalidName(name)


def check_string(text):
    """Raise an error if something is no str, of any length and characters."""
    if kind_of(text) != "text":
        raise ParseError(text)


def check_key(key):
    """Raise an error if something is no key."""
    if not is_key(key):
        raise InvalidName(key)
