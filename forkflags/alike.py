"""Comparing fork plans that have the same cells."""

from forkflags.errors import UnlikePlans
from forkflags.trees import ways_of


def parting_state(first, second):
    """Return a state in which the plans tell different writers, or None if there is none."""
    if first.cells != second.cells:
        raise UnlikePlans("the plans have different cells")
    ways = ways_of(first.tree)
    others = ways_of(second.tree)
    for name in first.names:
        # Two plans of one writer can have different names.
        if name not in others or ways[name] != others[name]:
            return first.updated(first.start(), name)
    return None
