"""Trees: a tree is a name or a pair (left, right) of trees."""

from forkflags.errors import InvalidTree, UnknownFork, UnknownWriter
from forkflags.naming import MOST_WRITERS, is_name


def is_tree(value):
    """Tell whether the value is a tree."""
    seen = set()
    waiting = [value]
    # A wrong value can share its parts and so have very many leaves:
    # therefore the search ends at the first leaf that is one too many.
    while waiting:
        part = waiting.pop()
        if isinstance(part, tuple) and len(part) == 2:
            waiting.append(part[1])
            waiting.append(part[0])
        elif not is_name(part) or part in seen or len(seen) == MOST_WRITERS:
            return False
        else:
            seen.add(part)
    return True


def parts_of(tree):
    """List (way, part) for each subtree; it comes before its left part, and this before its right part."""
    if not is_tree(tree):
        raise InvalidTree("not a tree")
    parts = []
    waiting = [("", tree)]
    while waiting:
        way, part = waiting.pop()
        parts.append((way, part))
        if not isinstance(part, str):
            left, right = part
            waiting.append((way + "1", right))
            waiting.append((way + "0", left))
    return parts


def leaf_names(tree):
    """List the writers from left to right."""
    return [part for _, part in parts_of(tree) if isinstance(part, str)]


def ways_of(tree):
    """Return a dict from each writer to its way, from left to right."""
    return {part: way for way, part in parts_of(tree) if isinstance(part, str)}


def way_of(tree, writer):
    """Return the way of one writer."""
    ways = ways_of(tree)
    # The list also answers for values that cannot be keys.
    if writer not in list(ways):
        raise UnknownWriter(writer)
    return ways[writer]


def forks_of(tree):
    """List the forks, each before those beneath it, those on its left before those on its right."""
    return [way for way, part in parts_of(tree) if not isinstance(part, str)]


def check_fork(tree, fork):
    """Raise an error if the tree does not have this fork."""
    if fork not in forks_of(tree):
        raise UnknownFork(fork)


def height_of(tree):
    """Return the greatest depth of a writer."""
    return max([len(way) for way, _ in parts_of(tree)])


def names_beneath(tree, fork, side):
    """List, from left to right, the writers beneath the left (0) or right (1) child of a fork."""
    check_fork(tree, fork)
    child = fork + str(side)
    ways = ways_of(tree)
    return [name for name in ways if ways[name].startswith(child)]
