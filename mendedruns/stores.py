"""Stores: a state for each moment, of which the early ones can be dropped."""

from mendedruns.checks import check_count, check_key, check_state
from mendedruns.errors import InvalidState, UnknownMoment
from mendedruns.mending import changed_state
from mendedruns.running import check_trace
from mendedruns.values import kind_of


class Store:
    """The state now, and the states of the earlier moments that were not dropped."""

    def __init__(self, state):
        check_state(state)
        self.earliest = 0
        # The states are never changed but replaced, so that copies of a store may share them.
        self.base = dict(state)
        self.latest = self.base
        # For each kept moment but the earliest, what has become different there.
        self.differences = []

    @property
    def moment(self):
        """The moment now."""
        return self.earliest + len(self.differences)

    @property
    def kept(self):
        """The ascending list of the moments whose states are kept."""
        return list(range(self.earliest, self.moment + 1))

    @property
    def now(self):
        """The state now."""
        return dict(self.latest)

    def commit(self, trace):
        """Bring the effect of a trace into the state, and return the new moment."""
        check_trace(trace)
        return self.go_on(trace.effect)

    def drop(self, moment):
        """Drop the states of all moments earlier than this one, and return how many they were."""
        check_count(moment)
        if moment > self.moment:
            raise UnknownMoment(moment)
        if moment <= self.earliest:
            return 0
        count = moment - self.earliest
        self.base = self[moment]
        self.earliest = moment
        self.differences = self.differences[count:]
        return count

    def changed(self, key):
        """Return the ascending list of the kept moments at which a key has another value than before."""
        check_key(key)
        return [self.earliest + 1 + index for index, found in enumerate(self.differences) if key in found]

    def go_on(self, effect):
        """Make the next moment, with the state after an effect, and return it."""
        found = {key: value for key, value in effect.items() if self.latest.get(key) != value}
        self.latest = changed_state(self.latest, found)
        self.differences.append(found)
        return self.moment

    def twin(self):
        """Return an independent store that is equal to this one."""
        made = Store({})
        made.earliest = self.earliest
        made.base = self.base
        made.latest = self.latest
        made.differences = list(self.differences)
        return made

    def __getitem__(self, at):
        if at not in self:
            raise UnknownMoment(at)
        together = {}
        for found in self.differences[:at - self.earliest]:
            together.update(found)
        return changed_state(self.base, together)

    def __contains__(self, moment):
        return kind_of(moment) == "integer" and self.earliest <= moment <= self.moment

    def __iter__(self):
        raise TypeError("a store is not iterated over")

    def __eq__(self, other):
        if not isinstance(other, Store) or self.earliest != other.earliest:
            return False
        # Differences are only what is really other, so they are equal if the states are.
        return self.base == other.base and self.differences == other.differences

    def __len__(self):
        return len(self.latest)


def check_store(store):
    """Raise an error if something is no store."""
    if not isinstance(store, Store):
        raise InvalidState(store)
