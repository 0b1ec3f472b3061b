"""Mends traces: only the steps that may have other outcomes at a new state are done again."""

from mendedruns.checks import check_arguments, check_state
from mendedruns.machine import performed
from mendedruns.programs import check_program
from mendedruns.running import check_trace, trace_of_run
from mendedruns.values import are_equal


class Mended:
    """A mended trace, with the mark of each of its steps."""

    def __init__(self, trace, marks):
        self.mended = trace
        self.given = marks

    @property
    def trace(self):
        """The mended trace."""
        return self.mended

    @property
    def marks(self):
        """The list of the marks of all steps."""
        return list(self.given)

    @property
    def kept(self):
        """The list of the places of the kept steps, in order."""
        return [step[0] for step, mark in zip(self.mended.steps, self.given) if mark == "kept"]

    @property
    def done(self):
        """The list of the places of the done steps, in order."""
        return [step[0] for step, mark in zip(self.mended.steps, self.given) if mark != "kept"]

    def __eq__(self, other):
        if not isinstance(other, Mended):
            return False
        return self.mended == other.mended and are_equal(tuple(self.given), tuple(other.given))


def mend(program, old, state, *, arguments=None):
    """Return the old trace mended to a state."""
    check_mending(program, old, state, arguments)
    return mended_run(program, old, state, arguments)


def count_done(program, old, state, *, arguments=None):
    """Return how many steps mending the old trace to a state does."""
    return len(mend(program, old, state, arguments=arguments).done)


def apply_effect(state, trace):
    """Return the state after the effect of a trace."""
    check_state(state)
    check_trace(trace)
    return changed_state(state, trace.effect)


def check_mending(program, old, state, arguments):
    """Raise the error of the first of these that is wrong."""
    check_program(program)
    check_trace(old)
    check_state(state)
    check_arguments(arguments)


def mended_run(program, old, state, arguments):
    """Return what mend does, for arguments that were checked."""
    result = performed(program, state, arguments, steps_by_place(old))
    return Mended(trace_of_run(result), [record[2] for record in result[0]])


def steps_by_place(trace):
    """Return the dict from the places of the steps of a trace to these."""
    return {step[0]: step for step in trace.steps}


def changed_state(state, effect):
    """Return the state after an effect, a dict like that of a trace."""
    after = dict(state)
    for key, value in effect.items():
        if value is None:
            after.pop(key, None)
        else:
            after[key] = value
    return after
