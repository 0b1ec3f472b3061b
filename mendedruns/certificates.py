"""Certificates: what shows that a history of commits is right."""

from mendedruns.desks import Desk, check_desk
from mendedruns.held import pairs_of
from mendedruns.programs import first_wrong_place
from mendedruns.values import are_equal, is_name, is_value, kind_of

PARTS_OF_ENTRY = 5


def certificate(desk):
    """Return the certificate of all commits at a desk."""
    check_desk(desk)
    return [entry_of(desk, name, ending) for name, ending in desk.ended.items()]


def entry_of(desk, name, ending):
    """Return the entry for a committed run."""
    program, arguments = desk.recorded(name)
    moment, trace, done = desk.committed(name)
    return (name, program, pairs_of(arguments or {}), tuple(trace.steps), ending)


def first_wrong_commit(state, value, *, constraints=()):
    """Return None if a value is a certificate, otherwise a tuple of an index and what is wrong there."""
    desk = Desk(state, constraints=constraints)
    if not isinstance(value, list):
        return (0, "form")
    for index, entry in enumerate(value):
        wrong = wrong_part_of_entry(desk, entry)
        if wrong is not None:
            return (index, wrong)
    return None


def wrong_part_of_entry(desk, entry):
    """Return the first wrong part of an entry, or None; a right one is committed at the desk, too."""
    if kind_of(entry) != "list" or len(entry) != PARTS_OF_ENTRY:
        return "form"
    name, program, arguments, steps, ending = entry
    if not is_name(name) or name in desk.ended:
        return "name"
    if first_wrong_place(program) is not None:
        return "program"
    if not are_pairs(arguments):
        return "arguments"
    desk.begin(name, program, arguments=dict(arguments))
    right_ending = desk.commit(name)
    moment, trace, done = desk.committed(name)
    if not are_equal(steps, tuple(trace.steps)):
        return "steps"
    return None if are_equal(ending, right_ending) else "ending"


def are_pairs(value):
    """Return whether something is a tuple of pairs of a name and a value, in ascending order of unlike names."""
    if kind_of(value) != "list":
        return False
    for pair in value:
        if kind_of(pair) != "list" or len(pair) != 2 or not is_name(pair[0]) or not is_value(pair[1]):
            return False
    names = [pair[0] for pair in value]
    return names == sorted(set(names))
