"""Trees that are made from other trees."""

from forkflags.errors import DuplicateWriter, InvalidName, InvalidTree, LastWriter, TooMany, UnknownWriter
from forkflags.naming import MOST_WRITERS, is_name
from forkflags.trees import check_fork, is_tree, leaf_names


def mirror(tree, fork):
    """Return the tree with the two children of this fork exchanged."""
    check_fork(tree, fork)
    return _mirrored(tree, fork)


def _mirrored(tree, fork):
    left, right = tree
    if fork == "":
        return (right, left)
    if fork[0] == "0":
        return (_mirrored(left, fork[1:]), right)
    return (left, _mirrored(right, fork[1:]))


def normal_tree(tree):
    """Return the tree whose every fork has its least name beneath the left child."""
    if not is_tree(tree):
        raise InvalidTree("not a tree")
    return _normal(tree)


def _normal(tree):
    if isinstance(tree, str):
        return tree
    left = _normal(tree[0])
    right = _normal(tree[1])
    if _first_leaf(right) < _first_leaf(left):
        return (right, left)
    return (left, right)


def _first_leaf(tree):
    """Return the leftmost leaf, which is the least name of a normal tree."""
    part = tree
    while not isinstance(part, str):
        part = part[0]
    return part


def graft(tree, writer, beside):
    """Return the tree with the leaf beside replaced by the fork (beside, writer)."""
    names = leaf_names(tree)
    if not is_name(writer):
        raise InvalidName(writer)
    if writer in names:
        raise DuplicateWriter(writer)
    if beside not in names:
        raise UnknownWriter(beside)
    if len(names) == MOST_WRITERS:
        raise TooMany(MOST_WRITERS)
    return replaced(tree, beside, (beside, writer))


def replaced(tree, name, part):
    """Return the tree with the leaf of this name replaced by another part."""
    if isinstance(tree, str):
        return part if tree == name else tree
    left, right = tree
    return (replaced(left, name, part), replaced(right, name, part))


def prune(tree, writer):
    """Return the tree without this leaf; the other child of its fork takes the place of the fork."""
    if writer not in leaf_names(tree):
        raise UnknownWriter(writer)
    if tree == writer:
        raise LastWriter("the tree has no other leaf")
    return _pruned(tree, writer)


def _pruned(tree, writer):
    if isinstance(tree, str):
        return tree
    left, right = tree
    if left == writer:
        return right
    if right == writer:
        return left
    return (_pruned(left, writer), _pruned(right, writer))
