"""The written form of trees."""

from forkflags.errors import InvalidText, InvalidTree, TooMany
from forkflags.naming import MOST_LETTERS
from forkflags.trees import is_tree

MOST_CHARACTERS = 160


def format_tree(tree):
    """Write a tree."""
    if not is_tree(tree):
        raise InvalidTree("not a tree")
    return _written(tree)


def _written(tree):
    if isinstance(tree, str):
        return tree
    left, right = tree
    return f"({_written(left)} {_written(right)})"


def parse_tree(text):
    """Read the written form of a tree."""
    if len(text) > MOST_CHARACTERS:
        raise TooMany(MOST_CHARACTERS)
    tree, end = _read_tree(text, 0)
    if end < len(text):
        raise InvalidText(end)
    if not is_tree(tree):
        raise InvalidTree("a name occurs twice, or there are too many leaves")
    return tree


def _read_tree(text, at):
    """Return the tree whose written form begins at this position, and the position behind it."""
    if text[at:at + 1] != "(":
        end = _name_end(text, at)
        return text[at:end], end
    left, end = _read_tree(text, at + 1)
    right, end = _read_tree(text, _behind(text, end, " "))
    return (left, right), _behind(text, end, ")")


def _behind(text, at, wanted):
    """Return the position behind the wanted character, which must stand at this position."""
    if text[at:at + 1] != wanted:
        raise InvalidText(at)
    return at + 1


def _name_end(text, at):
    """Return the position behind the name that begins at this position."""
    end = at
    while end < len(text) and end < at + MOST_LETTERS and "a" <= text[end] <= "z":
        end = end + 1
    if end == at:
        raise InvalidText(at)
    return end
