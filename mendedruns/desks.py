"""Desks: a store with open runs, with constraints that no commit may break, and with views."""

from mendedruns.checks import check_arguments, check_count, check_name, check_state
from mendedruns.errors import Broken, InvalidProgram, InvalidState, LimitExceeded, NameTaken, UnknownName
from mendedruns.held import EndedRun, OpenRun, View, copied
from mendedruns.machine import performed
from mendedruns.mending import changed_state, mended_run
from mendedruns.programs import check_program
from mendedruns.running import trace_of_run
from mendedruns.stores import Store
from mendedruns.values import are_equal, is_name, kind_of

MOST_CONSTRAINTS = 10
MOST_OPEN_RUNS = 20
MOST_VIEWS = 10


class Desk:
    """A store, and the runs that read and write it."""

    def __init__(self, state, *, constraints=()):
        check_state(state)
        check_constraints(constraints)
        broken = first_broken(constraints, state)
        if broken is not None:
            raise Broken(broken)
        self.store = Store(state)
        self.constraints = constraints
        # Four dicts from names: the order of the open and of the ended runs is that of their beginnings and commits.
        self.running = {}
        self.past = {}
        self.aborted = {}
        self.watched = {}

    @property
    def active(self):
        """The list of the names of the open runs, in the order of their beginnings."""
        return list(self.running)

    @property
    def ended(self):
        """The dict from the names of the committed runs to their endings, in the order of the commits."""
        return {name: self.past[name].closing for name in self.past}

    @property
    def moment(self):
        """The moment now."""
        return self.store.moment

    @property
    def views(self):
        """The dict from the names of the views to their endings and numbers of steps done."""
        return {name: (self.watched[name].whole.ending, self.watched[name].spent) for name in self.watched}

    def begin(self, name, program, *, arguments=None):
        """Begin a run under a name at the moment now."""
        check_name(name)
        check_program(program)
        check_arguments(arguments)
        if name in self.running or name in self.past or name in self.aborted:
            raise NameTaken(name)
        if len(self.running) >= MOST_OPEN_RUNS:
            raise LimitExceeded(len(self.running) + 1)
        whole = self.run_now(program, arguments)
        self.running[name] = OpenRun(program, arguments, self.store.moment, whole, 0, 0)

    def advance(self, name, count=1):
        """Advance an open run, and return the number of steps done."""
        held = named(self.running, name)
        check_count(count)
        did = min(count, len(held.whole) - held.shown)
        self.running[name] = OpenRun(
            held.program, held.arguments, held.since, held.whole, held.shown + did, held.spent + did)
        return did

    def refresh(self, name):
        """Take an open run to the moment now, and return the number of steps done."""
        held = named(self.running, name)
        mended = self.mended_now(held)
        did = len([mark for mark in mended.marks[:held.shown] if mark != "kept"])
        self.running[name] = OpenRun(
            held.program, held.arguments, self.store.moment, mended.trace, held.shown, held.spent + did)
        return did

    def commit(self, name):
        """Commit an open run, and return its ending."""
        held = named(self.running, name)
        mended = self.mended_now(held)
        effect = mended.trace.effect
        closing = mended.trace.ending
        broken = first_broken(self.constraints, changed_state(self.store.latest, effect))
        if broken is not None:
            effect = {}
            closing = ("broken", broken)
        made = self.store.go_on(effect)
        spent = held.spent + len(mended.done)
        self.past[name] = EndedRun(held.program, held.arguments, made, mended.trace, spent, closing)
        del self.running[name]
        self.mend_views()
        return closing

    def commit_all(self, names):
        """Commit open runs in the order of a list of names, and return the list of their endings."""
        if not isinstance(names, list):
            raise UnknownName(names)
        seen = {}
        for name in names:
            named(self.running, name)
            if name in seen:
                raise UnknownName(name)
            seen[name] = True
        return [self.commit(name) for name in list(seen)]

    def abort(self, name):
        """Abort an open run."""
        named(self.running, name)
        del self.running[name]
        self.aborted[name] = True

    def state(self, moment=None):
        """Return the state at a moment, now if None."""
        return self.store.now if moment is None else self.store[moment]

    def trace_of(self, name):
        """Return the trace of an open run."""
        return named(self.running, name).beginning()

    def begun(self, name):
        """Return the moment where an open run began or was refreshed last."""
        return named(self.running, name).since

    def done_by(self, name):
        """Return the number of steps done of an open run."""
        return named(self.running, name).spent

    def committed(self, name):
        """Return a tuple of the moment, the mended trace and the number of steps done of a committed run."""
        held = named(self.past, name)
        return (held.made, held.whole, held.spent)

    def recorded(self, name):
        """Return a tuple of the program and the arguments of an open or committed run."""
        held = named(self.past if is_among(self.past, name) else self.running, name)
        return (held.program, copied(held.arguments))

    def watch(self, name, program, *, arguments=None):
        """Begin a view under a name."""
        check_name(name)
        check_program(program)
        check_arguments(arguments)
        if name in self.watched:
            raise NameTaken(name)
        if len(self.watched) >= MOST_VIEWS:
            raise LimitExceeded(len(self.watched) + 1)
        whole = self.run_now(program, arguments)
        self.watched[name] = View(program, arguments, whole, len(whole))

    def unwatch(self, name):
        """End a view."""
        named(self.watched, name)
        del self.watched[name]

    def tidy(self):
        """Drop the states that no open run has begun at or behind, and return how many they were."""
        return self.store.drop(min([self.store.moment] + [held.since for name, held in self.running.items()]))

    def trial(self):
        """Return an object for a with statement, at the end of which the desk is as at its beginning."""
        return Trial(self)

    def copy(self):
        """Return an independent desk that is equal to this one."""
        made = Desk({})
        made.store = self.store.twin()
        made.constraints = self.constraints
        made.running = dict(self.running)
        made.past = dict(self.past)
        made.aborted = dict(self.aborted)
        made.watched = dict(self.watched)
        return made

    def run_now(self, program, arguments):
        """Return the trace of a run at the state now."""
        return trace_of_run(performed(program, self.store.latest, arguments, {}))

    def mended_now(self, held):
        """Return the trace of an open run, mended to the state now."""
        return mended_run(held.program, held.beginning(), self.store.latest, held.arguments)

    def mend_views(self):
        """Mend the traces of all views to the state now."""
        self.watched = {name: mended_view(view, self.store.latest) for name, view in self.watched.items()}

    def summary(self):
        """Return a tuple of all that is compared beside the store."""
        opened = tuple([(name, self.running[name].summary()) for name in self.running])
        past = tuple([(name, self.past[name].summary()) for name in sorted(self.past)])
        watched = tuple([(name, self.watched[name].summary()) for name in sorted(self.watched)])
        return (self.constraints, opened, past, tuple(sorted(self.aborted)), watched)

    def __eq__(self, other):
        return isinstance(other, Desk) and self.store == other.store and are_equal(self.summary(), other.summary())

    def __len__(self):
        return len(self.running)


class Trial:
    """Gives a desk to a with statement, and takes back what was done with it there."""

    def __init__(self, desk):
        self.held = desk
        self.saved = None

    def __enter__(self):
        self.saved = self.held.copy()
        return self.held

    def __exit__(self, kind, value, trace):
        self.held.store = self.saved.store
        self.held.running = self.saved.running
        self.held.past = self.saved.past
        self.held.aborted = self.saved.aborted
        self.held.watched = self.saved.watched


def preview(desk, names):
    """Return a tuple of what committing the runs would return, the state afterwards, and the number of steps."""
    check_desk(desk)
    tried = desk.copy()
    endings = tried.commit_all(names)
    did = sum([tried.committed(name)[2] - desk.done_by(name) for name in names])
    return (endings, tried.state(), did)


def check_desk(desk):
    """Raise an error if something is no desk."""
    if not isinstance(desk, Desk):
        raise InvalidState(desk)


def check_constraints(constraints):
    """Raise an error if something is no tuple of programs, or has too many."""
    if kind_of(constraints) != "list" or len(constraints) > MOST_CONSTRAINTS:
        raise InvalidProgram(())
    for program in constraints:
        check_program(program)


def first_broken(constraints, state):
    """Return the index of the first constraint that is broken at a state, or None."""
    for index, program in enumerate(constraints):
        records, ending, changes = performed(program, state, None, {})
        if ending[0] == "refused":
            return index
    return None


def mended_view(view, state):
    """Return a view that is mended to a state."""
    mended = mended_run(view.program, view.whole, state, view.arguments)
    return View(view.program, view.arguments, mended.trace, view.spent + len(mended.done))


def is_among(table, name):
    """Return whether a dict from names holds something under a name, which may be any value."""
    return is_name(name) and name in table


def named(table, name):
    """Return what a dict from names holds under a name, or raise an error if it is no name there."""
    if not is_among(table, name):
        raise UnknownName(name)
    return table[name]
