"""On which keys, prefixes and arguments the steps of a run rest."""

from mendedruns.checks import check_arguments, check_key, check_state
from mendedruns.machine import performed
from mendedruns.programs import check_program
from mendedruns.running import is_step_place
from mendedruns.values import kind_of


def lineage(program, state, place, *, arguments=None):
    """Return a tuple of the ascending lists of the keys, prefixes and arguments that a step rests on, or None."""
    check_program(program)
    check_state(state)
    check_arguments(arguments)
    records, ending, changes = performed(program, state, arguments, {})
    if not is_step_place(place) or place not in {step[0]: True for step, sources, mark, touched in records}:
        return None
    roots = roots_of(records, place)
    return tuple([sorted([label[1] for label in roots if label[0] == kind]) for kind in ("key", "prefix", "name")])


def resting_places(program, state, key, *, arguments=None):
    """Return the list of the places of the steps that rest on a key, in order."""
    check_program(program)
    check_state(state)
    check_key(key)
    check_arguments(arguments)
    records, ending, changes = performed(program, state, arguments, {})
    resting = {}
    for (place, inputs, outcome), sources, mark, touched in records:
        origins = source_places(inputs, sources)
        if ("key", key) in own_roots(inputs, sources) or any([origin in resting for origin in origins]):
            resting[place] = True
    return list(resting)


def roots_of(records, place):
    """Return the list of the labels of all inputs from outside of the run that the step at a place rests on."""
    needed = {place: True}
    roots = {}
    # Sources are places of earlier steps, so each step is met behind all that rest on it.
    for (at, inputs, outcome), sources, mark, touched in reversed(list(records)):
        if at not in needed:
            continue
        for label in own_roots(inputs, sources):
            roots[label] = True
        for origin in source_places(inputs, sources):
            needed[origin] = True
    return list(roots)


def own_roots(inputs, sources):
    """Return the list of the labels of those inputs of a step that come from outside of the run."""
    labels = [label for label, value in inputs]
    # What a scan finds depends on the whole state, also where all of its keys were written by the run.
    return [label for label, source in zip(labels, sources) if label[0] == "prefix" or source in ("store", "argument")]


def source_places(inputs, sources):
    """Return the list of the places among the sources of a step."""
    found = []
    for (label, value), source in zip(inputs, sources):
        entries = list(source) if label[0] == "prefix" else [source]
        found.extend([entry for entry in entries if kind_of(entry) == "list"])
    return found
