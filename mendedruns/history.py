"""What a run would have done at the past moments of a store."""

from mendedruns.checks import check_arguments
from mendedruns.machine import performed
from mendedruns.mending import mended_run
from mendedruns.programs import check_program
from mendedruns.running import check_trace, sees_any, trace_of_run
from mendedruns.stores import check_store
from mendedruns.values import are_equal


def trace_at(store, program, moment, *, arguments=None):
    """Return the trace of the run at a kept moment."""
    check_store(store)
    check_program(program)
    state = store[moment]
    check_arguments(arguments)
    return trace_of_run(performed(program, state, arguments, {}))


def changing_moments(store, program, *, arguments=None):
    """Return the ascending list of the kept moments at which the ending is another one than before."""
    check_store(store)
    trace = trace_at(store, program, store.earliest, arguments=arguments)
    found = []
    for moment, difference in later_differences(store):
        # A run that has not looked at anything that has changed does the same again.
        if sees_any(trace, difference):
            before = trace.ending
            trace = trace_at(store, program, moment, arguments=arguments)
            if not are_equal(trace.ending, before):
                found.append(moment)
    return found


def first_change(store, program, old, *, arguments=None):
    """Return the earliest kept moment at which mending an old trace does some step, or None."""
    check_store(store)
    check_program(program)
    check_trace(old)
    check_arguments(arguments)
    # As long as all steps are kept, they are steps of the old trace, and look at nothing else.
    seen = [moment for moment, difference in later_differences(store) if sees_any(old, difference)]
    for moment in [store.earliest] + seen:
        if len(mended_run(program, old, store[moment], arguments).done) > 0:
            return moment
    return None


def later_differences(store):
    """Return the list of the kept moments but the earliest one, each with what has become different there."""
    return [(store.earliest + 1 + index, difference) for index, difference in enumerate(store.differences)]
