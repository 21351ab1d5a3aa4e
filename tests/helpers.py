"""What several tests need: trees and states to go through, and a check of errors."""

import itertools
import operator
import unittest

LETTERS = list("abcdefghijklmnopqrstuvwxyz")

# Values that are neither trees nor names, of all kinds.
NO_NAMES = [
    None, True, False, 0, 3, b"a", "", "A", "aB", "a b", " a", "a ", "a\n", "a1", "a_b", "\u00e9", "\u00df", "\u0430",
    "abcdefghi", "`", "{", [], ["a"], {}, {"a": 1}, (), ("a",), ("a", "b"),
]


def deep_copy(value, known=None):
    """Copy a value; a tuple is copied only if something in it is, and each part is asked once.

    copy.deepcopy asks a shared tuple again for each place where it stands, which can be very many.
    """
    known = {} if known is None else known
    if id(value) not in known:
        known[id(value)] = _copied(value, known)
    return known[id(value)]


def _copied(value, known):
    if isinstance(value, list):
        return [deep_copy(part, known) for part in value]
    if isinstance(value, dict):
        return {key: deep_copy(part, known) for key, part in value.items()}
    if isinstance(value, tuple):
        parts = tuple([deep_copy(part, known) for part in value])
        return value if all(map(operator.is_, parts, value)) else parts
    return value


class Case(unittest.TestCase):
    """A test case that can also ask for errors and for arguments that stay what they were."""

    def fails(self, error, attributes, function, *args, **more):
        """Ask for exactly this error with these attributes, and for unchanged arguments."""
        kept = deep_copy((args, more))
        with self.assertRaises(error) as caught:
            function(*args, **more)
        self.assertIs(caught.exception.__class__, error)
        self.assertEqual(vars(caught.exception), attributes)
        self.assertEqual((args, more), kept)

    def gives(self, wanted, function, *args, **more):
        """Ask for this result, of the same kind, twice, and for unchanged arguments."""
        kept = deep_copy((args, more))
        for _ in range(2):
            given = function(*args, **more)
            self.assertEqual(given, wanted)
            self.assertIs(given.__class__, wanted.__class__)
            self.assertEqual((args, more), kept)
        for value, before in zip(args, kept[0]):
            if isinstance(value, dict):
                self.assertEqual(list(value), list(before), "the order of the keys has changed")

    def gives_new(self, wanted, function, *args):
        """As gives, and a change of the list or dict that is returned changes nothing else."""
        self.gives(wanted, function, *args)
        given = function(*args)
        for value in args:
            self.assertIsNot(given, value)
        given.clear()
        self.gives(wanted, function, *args)


def all_states(sizes):
    """List all states of cells of these sizes."""
    return list(itertools.product(*[range(size) for size in sizes]))


def all_shapes(names):
    """List all trees with these leaves from left to right."""
    if len(names) == 1:
        return [names[0]]
    return [
        (left, right)
        for cut in range(1, len(names))
        for left in all_shapes(names[:cut])
        for right in all_shapes(names[cut:])
    ]


def every_tree(names):
    """List all trees with these leaves in any order."""
    return [tree for row in itertools.permutations(names) for tree in all_shapes(list(row))]


def comb_tree(names):
    """Return the tree in which each fork has a leaf on the left: the highest one."""
    tree = names[-1]
    for name in names[-2::-1]:
        tree = (name, tree)
    return tree


def plain_ways(tree, way=""):
    """Return the ways of a tree, found without the program."""
    if isinstance(tree, str):
        return {tree: way}
    return {**plain_ways(tree[0], way + "0"), **plain_ways(tree[1], way + "1")}


def nested(value, depth, wrap):
    """Return the value wrapped this many times."""
    for _ in range(depth):
        value = wrap(value)
    return value


NO_TREES = [value for value in NO_NAMES if value != ("a", "b")] + [
    ["a", "b"], ("a", ["b", "c"]), ("a", "b", "c"), (("a", "b", "c"), "d"), ("a", ("b",)), ("a", ()),
    ("a", "a"), (("a", "b"), ("c", "a")), ("a", None), (1, 2), ("a", "B"), ("a", "abcdefghi"), {"a": "b"},
    comb_tree(LETTERS[:13]), nested("a", 100, lambda value: (value, value)), nested("a", 100, lambda value: (value,)),
    nested("a", 100, lambda value: [value]), nested("a", 100, lambda value: ("b", value)),
    nested("a", 100, lambda value: (value, "b")), nested((), 100, lambda value: (value, value)),
]
