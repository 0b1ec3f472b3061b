"""Runs of programs, and their traces."""

from mendedruns.checks import check_arguments, check_count, check_state
from mendedruns.errors import InvalidTrace
from mendedruns.machine import performed
from mendedruns.programs import check_program
from mendedruns.values import are_equal, kind_of


class Trace:
    """The first steps of a run, or all of them with the ending and the effect of the run."""

    def __init__(self, taken, sources, hits, closing, changes):
        self.taken = taken
        # For each step the tuple of the sources of its inputs.
        self.sources = sources
        # For each step the key that it wrote or deleted, or None.
        self.hits = hits
        self.closing = closing
        # From the keys of the effect to tuples of the value, None if deleted, and the place of the step that did it.
        self.changes = changes
        self.numbers = {step[0]: number for number, step in enumerate(taken)}

    @property
    def steps(self):
        """The list of the steps."""
        return list(self.taken)

    @property
    def ending(self):
        """The ending, or None if there are not all steps."""
        return self.closing

    @property
    def effect(self):
        """The dict of the last writes and deletions, None being the value of a deleted key."""
        return {key: value for key, (value, place) in self.changes.items()}

    @property
    def reads(self):
        """The ascending list of the keys that were read."""
        return self.sought("key")

    @property
    def prefixes(self):
        """The ascending list of the prefixes that were scanned."""
        return self.sought("prefix")

    @property
    def touched(self):
        """The ascending list of the keys that were written or deleted, given up or not."""
        return sorted({key for key in self.hits if key is not None})

    def sought(self, kind):
        """Return the ascending list of what the labels of this kind in the inputs hold."""
        return sorted({label[1] for step in self.taken for label, value in step[1] if label[0] == kind})

    def step(self, place):
        """Return the step at a place, or None; place may be any value."""
        return self.taken[self.numbers[place]] if place in self else None

    def first(self, count):
        """Return the beginning with so many steps."""
        check_count(count)
        if count >= len(self.taken):
            return self
        return Trace(self.taken[:count], self.sources[:count], self.hits[:count], None, {})

    def parts(self):
        """Return a tuple of all that is compared."""
        return (tuple(self.taken), self.closing, tuple(sorted(self.effect.items())))

    def __contains__(self, place):
        return is_step_place(place) and place in self.numbers

    def __eq__(self, other):
        return isinstance(other, Trace) and are_equal(self.parts(), other.parts())

    def __len__(self):
        return len(self.taken)

    def __repr__(self):
        return f"Trace({self.taken!r}, {self.closing!r}, {dict(sorted(self.effect.items()))!r})"


def run(program, state, *, arguments=None):
    """Return the trace of the run of a program."""
    check_program(program)
    check_state(state)
    check_arguments(arguments)
    return trace_of_run(performed(program, state, arguments, {}))


def steps_of(program, state, *, arguments=None):
    """Yield the steps of the run of a program."""
    trace = run(program, state, arguments=arguments)
    for step in trace.steps:
        yield step


def trace_of_run(result):
    """Return the trace of a run that was performed with this result."""
    records, ending, changes = result
    taken = [record[0] for record in records]
    sources = [record[1] for record in records]
    return Trace(taken, sources, [record[3] for record in records], ending, changes)


def check_trace(trace):
    """Raise an error if something is no trace."""
    if not isinstance(trace, Trace):
        raise InvalidTrace(trace)


def sees_any(trace, keys):
    """Return whether a trace has read some of these keys, or looked for what one of them begins with."""
    looked = {key: True for key in trace.reads}
    prefixes = trace.prefixes
    return any([key in looked or begins_with_any(key, prefixes) for key in keys])


def begins_with_any(key, prefixes):
    """Return whether a key begins with one of some prefixes."""
    return any([key.startswith(prefix) for prefix in prefixes])


def is_step_place(place):
    """Return whether something has the form of the place of a step.

    Only such tuples are looked up in dicts, where True would be taken for 1, and a list not be borne.
    """
    return kind_of(place) == "list" and all([kind_of(part) in ("integer", "text") for part in place])
