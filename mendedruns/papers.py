"""Papers on mending: where the inputs of every step come from, and why it is kept or done."""

from mendedruns.machine import performed
from mendedruns.mending import check_mending, steps_by_place
from mendedruns.values import are_equal, kind_of

PARTS_OF_LINE = ("place", "inputs", "sources", "outcome", "mark")


def paper(program, old, state, *, arguments=None):
    """Return the list of the lines of the paper on mending the old trace to a state."""
    check_mending(program, old, state, arguments)
    records, ending, changes = performed(program, state, arguments, steps_by_place(old))
    return [(place, inputs, sources, outcome, mark) for (place, inputs, outcome), sources, mark, key in records]


def first_wrong(program, old, state, lines, *, arguments=None):
    """Return None if lines is the paper on mending, otherwise a tuple of an index and what is wrong there."""
    right = paper(program, old, state, arguments=arguments)
    if not isinstance(lines, list):
        return (0, "form")
    for index, line in enumerate(lines):
        wrong = wrong_part(line, right[index:index + 1])
        if wrong is not None:
            return (index, wrong)
    if len(lines) < len(right):
        return (len(lines), "end")
    return None


def wrong_part(line, right):
    """Return the first wrong part of a line, or None; right is a list of the right line, if there is one."""
    if kind_of(line) != "list" or len(line) != len(PARTS_OF_LINE):
        return "form"
    if len(right) == 0:
        return "end"
    for part, given, wanted in zip(PARTS_OF_LINE, line, right[0]):
        if not are_equal(given, wanted):
            return part
    return None
