"""On which steps of committed runs the value of a key rests."""

from mendedruns.checks import check_key
from mendedruns.desks import check_desk
from mendedruns.lineage import source_places
from mendedruns.outcomes import first_difference
from mendedruns.values import kind_of


def reasons(desk, key):
    """Return the list of the steps of committed runs on which the value of a key now rests."""
    check_desk(desk)
    check_key(key)
    runs = effective_runs(desk)
    writers = writers_of(runs)
    needed = {step: True for step in writers.get(key, [])[-1:]}
    found = []
    # A step rests on earlier ones alone, so each is met behind all that rest on it.
    for name, trace in reversed(list(runs)):
        for touched in trace.changes:
            writers[touched].pop()
        found.extend(needed_entries(name, trace, writers, needed))
    return found[::-1]


def first_wrong_reason(desk, key, value):
    """Return None if a value is the list of the reasons, otherwise the index of the first wrong entry."""
    right = reasons(desk, key)
    if not isinstance(value, list):
        return 0
    return first_difference(value, right)


def effective_runs(desk):
    """Return the list of tuples (name, trace) of the committed runs that were not broken, in order."""
    return [(name, desk.committed(name)[1]) for name, ending in desk.ended.items() if ending[0] != "broken"]


def writers_of(runs):
    """Return a dict from keys to the lists of the steps, as (name, place), whose values the runs left there."""
    writers = {}
    for name, trace in runs:
        for key, (value, place) in trace.changes.items():
            writers.setdefault(key, []).append((name, place))
    return writers


def needed_entries(run_name, trace, writers, needed):
    """Return the list of the entries of the needed steps of a run, the last one first.

    writers tells of the runs before this one. The steps that these steps rest on become needed, too.
    """
    found = []
    for step, sources in reversed(list(zip(trace.taken, trace.sources))):
        place, inputs, outcome = step
        if (run_name, place) not in needed:
            continue
        pairs = list(zip(inputs, sources))
        origins = tuple([origin_of(run_name, label, value, source, writers) for (label, value), source in pairs])
        found.append((run_name, place, inputs, origins, outcome))
        for origin in source_places(inputs, origins):
            needed[origin] = True
    return found


def origin_of(run_name, label, value, source, writers):
    """Return the origin of an input of a step."""
    if label[0] != "prefix":
        return origin_of_value(run_name, label[1], source, writers)
    return tuple([origin_of_value(run_name, key, entry, writers) for key, entry in zip(value, source)])


def origin_of_value(run_name, word, source, writers):
    """Return the origin of what stands under a name or key, given its source in the run."""
    if kind_of(source) == "list":
        return (run_name, source)
    if source != "store":
        return source
    earlier = writers.get(word, [])
    return earlier[-1] if earlier else "start"
