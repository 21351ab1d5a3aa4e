"""Two updates that run at the same time."""

from forkflags.errors import DuplicateWriter
from forkflags.trees import ways_of


def overlapped(plan, state, first, second):
    """Return the state that is left if both writers look at this state and then make all their turns."""
    turns = plan.turns(state, first) + plan.turns(state, second)
    if first == second:
        raise DuplicateWriter(first)
    return plan.turned(state, turns)


def loses(plan, state, first, second):
    """Tell whether both of the overlapped updates of a fork plan are lost."""
    return plan.told(overlapped(plan, state, first, second)) not in (first, second)


def safe_pairs(plan):
    """List the pairs of writers of a fork plan whose overlapped updates are never both lost."""
    ways = ways_of(plan.tree)
    # A told writer that is not beneath the fork where their ways part keeps both from being told.
    return [(a, b) for a in plan.names for b in plan.names if a < b and ways[a][0] != ways[b][0]]
