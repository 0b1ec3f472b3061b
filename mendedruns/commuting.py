"""Which runs commute, and what several runs come to one by one."""

from mendedruns.checks import check_arguments, check_state
from mendedruns.errors import InvalidCount, InvalidProgram
from mendedruns.machine import performed
from mendedruns.mending import changed_state
from mendedruns.programs import check_program
from mendedruns.running import check_trace, sees_any, trace_of_run
from mendedruns.values import are_equal, kind_of


def serial_result(state, *runs):
    """Return a tuple of the state and the list of the endings after running programs one by one."""
    check_state(state)
    check_runs(list(runs))
    return result_of_runs(state, runs)


def commute(state, first, second):
    """Return whether two runs commute at a state."""
    one_way, endings = serial_result(state, first, second)
    other_way, other_endings = result_of_runs(state, [second, first])
    return one_way == other_way and are_equal(tuple(endings), tuple(other_endings[::-1]))


def are_independent(one, other):
    """Return whether no trace writes or deletes what the other one reads, finds, writes or deletes."""
    check_trace(one)
    check_trace(other)
    if len(set(one.touched) & set(other.touched)) > 0:
        return False
    return not sees_any(one, other.touched) and not sees_any(other, one.touched)


def order_result(state, runs, order):
    """Return what serial_result does for runs in an order, with the endings in the order of the list of runs."""
    check_state(state)
    check_runs(runs)
    if not is_order(order, len(runs)):
        raise InvalidCount(order)
    after, endings = result_of_runs(state, [runs[index] for index in order])
    placed = {index: ending for index, ending in zip(order, endings)}
    return (after, [placed[index] for index in range(len(runs))])


def check_runs(runs):
    """Raise the error of the first of a list of runs that has one."""
    if not isinstance(runs, list):
        raise InvalidProgram(())
    for given in runs:
        if kind_of(given) != "list" or len(given) != 2:
            raise InvalidProgram(())
        check_program(given[0])
        check_arguments(given[1])


def result_of_runs(state, runs):
    """Return what serial_result does, for a state and runs that were checked."""
    after = dict(state)
    endings = []
    for program, arguments in runs:
        trace = trace_of_run(performed(program, after, arguments, {}))
        after = changed_state(after, trace.effect)
        endings.append(trace.ending)
    return (after, endings)


def is_order(value, count):
    """Return whether something is a list of the first so many indexes, each once."""
    if not isinstance(value, list) or not all([kind_of(index) == "integer" for index in value]):
        return False
    return sorted(value) == list(range(count))
