"""In which order the open runs of a desk are committed best."""

from mendedruns.desks import check_desk, preview
from mendedruns.errors import LimitExceeded

MOST_ORDERED_RUNS = 5


def total_done(desk, names):
    """Return how many steps committing the runs would do."""
    return preview(desk, names)[2]


def best_order(desk):
    """Return a tuple of the least number of steps, and the least order of all open runs that does so few."""
    check_desk(desk)
    if len(desk) > MOST_ORDERED_RUNS:
        raise LimitExceeded(len(desk))
    tried = desk.copy()
    # Views are mended with each commit, and none of their steps counts.
    for name in list(tried.views):
        tried.unwatch(name)
    return best_rest(tried)


def best_rest(desk):
    """Return what best_order does, for a desk with few open runs and without views."""
    found = []
    for name in desk.active:
        tried = desk.copy()
        tried.commit(name)
        spent = tried.committed(name)[2] - desk.done_by(name)
        count, names = best_rest(tried)
        found.append((spent + count, [name] + names))
    return min(found) if found else (0, [])
