"""Numbers of trees: the normal trees over given names are numbered and listed."""

from forkflags.naming import check_few_names
from forkflags.packing import pack, state_count, unpack
from forkflags.shaping import normal_tree, prune
from forkflags.trees import leaf_names, parts_of, way_of


def _place_counts(count):
    """List, for each inserted name in order, the number of places where it can be inserted."""
    return list(range(1, 2 * count - 2, 2))


def tree_count(count):
    """Return the number of normal trees over this many names."""
    return state_count(_place_counts(count))


def tree_at(names, number):
    """Return the normal tree over these names that has this number."""
    check_few_names(names)
    ordered = sorted(names)
    tree = ordered[0]
    places = unpack(number, _place_counts(len(ordered)))
    for place, name in zip(places, ordered[1:]):
        tree = _inserted(tree, place, name)
    return tree


def _inserted(tree, place, writer):
    """Return the tree with the subtree S of this number replaced by the fork (S, writer)."""
    if place == 0:
        return (tree, writer)
    left, right = tree
    behind = place - 1 - _subtree_count(left)
    if behind < 0:
        return (_inserted(left, place - 1, writer), right)
    return (left, _inserted(right, behind, writer))


def _subtree_count(tree):
    if isinstance(tree, str):
        return 1
    return 1 + _subtree_count(tree[0]) + _subtree_count(tree[1])


def tree_number(tree):
    """Return the number of the normal form of the tree, over its own names."""
    names = leaf_names(tree)
    rest = normal_tree(tree)
    places = []
    # The greatest name was inserted last, so it is taken away first.
    for name in sorted(names, reverse=True)[:-1]:
        places.append(_place_of(rest, name))
        rest = prune(rest, name)
    return pack(tuple(places[::-1]), _place_counts(len(names)))


def _place_of(tree, writer):
    """Return the number of the subtree that is the fork above this leaf."""
    ways = [way for way, _ in parts_of(tree)]
    return ways.index(way_of(tree, writer)[:-1])


def all_trees(names):
    """Yield all normal trees over these names, in the order of their numbers."""
    check_few_names(names)
    kept = list(names)
    for number in range(tree_count(len(kept))):
        yield tree_at(kept, number)
