"""Journals: texts from which stores are recovered, also where they are cut or spoilt."""

from mendedruns.checks import check_string
from mendedruns.errors import UnknownMoment
from mendedruns.mending import changed_state
from mendedruns.stores import Store, check_store
from mendedruns.texts import read_value, text_of_value
from mendedruns.values import is_key

CHECK_MODULUS = 1000003


def check_number(text):
    """Return the check number of a str."""
    check_string(text)
    return sum([number * ord(character) for number, character in enumerate(text, start=1)]) % CHECK_MODULUS


def journal(store):
    """Return the journal of a store of which no state was dropped."""
    check_store(store)
    if 0 not in store:
        raise UnknownMoment(0)
    lines = [line_of(0, store.base)]
    for index, difference in enumerate(store.differences):
        lines.append(line_of(index + 1, difference))
    return "".join([line + "\n" for line in lines])


def recover(text):
    """Return a tuple of the store that is recovered from a text, None if there is none, and of how much is lost."""
    check_string(text)
    store = None
    lost = len(text)
    # What stands behind the last line feed is no line.
    for line in text.split("\n")[:-1]:
        changes = changes_in(line)
        if changes is None or line != right_line(store, changes):
            break
        if store is None:
            store = Store(changes)
        else:
            store.go_on(changes)
        lost -= len(line) + 1
    return (store, lost)


def line_of(moment, difference):
    """Return the line for what has become different at a moment, without its line feed."""
    changes = [text_of_change(key, difference[key]) for key in sorted(difference)]
    words = f"{moment} " + (" ".join(changes) if changes else "-")
    return f"{words} {check_number(words)}"


def text_of_change(key, value):
    """Return the text of the change of a key, whose value is None if it was removed."""
    if value is None:
        return key + "!"
    return key + "=" + text_of_value(value).replace(" ", "_")


def right_line(store, changes):
    """Return the line with which a journal goes on behind a store, or begins if that is None, for these changes."""
    before = {} if store is None else store.latest
    moment = 0 if store is None else store.moment + 1
    return line_of(moment, {key: value for key, value in changes.items() if before.get(key) != value})


def changes_in(line):
    """Return the dict of the changes in a line, or None if it does not have the form of a line."""
    words = line.split(" ")[1:-1]
    if words == ["-"]:
        return {}
    changes = {}
    for word in words:
        change = change_in(word)
        if change is None:
            return None
        changes[change[0]] = change[1]
    return changes


def change_in(word):
    """Return a tuple of the key and the value, None if it is removed, of a change; None if it is no change."""
    if word.endswith("!"):
        # What is no key cannot be removed, so that the right line will be another one.
        return (word[:-1], None)
    key, sign, text = word.partition("=")
    value = read_value(text.replace("_", " "))
    return (key, value) if is_key(key) and value is not None else None
