"""Point 13: trees that are made from other trees."""

from forkflags.errors import (
    DuplicateWriter, InvalidName, InvalidTree, LastWriter, TooMany, UnknownFork, UnknownWriter,
)
from forkflags.shaping import graft, mirror, normal_tree, prune
from tests.helpers import LETTERS, NO_NAMES, NO_TREES, Case, all_shapes, comb_tree, every_tree, plain_ways

TWELVE = comb_tree(LETTERS[:12])
SMALL = (("a", "b"), "c")


def tree_of_ways(ways, fork=""):
    """Build the tree with these ways, found without the program."""
    for name, way in ways.items():
        if way == fork:
            return name
    return (tree_of_ways(ways, fork + "0"), tree_of_ways(ways, fork + "1"))


def prefixes(tree):
    return sorted({way[:level] for way in plain_ways(tree).values() for level in range(len(way))})


class MirrorTest(Case):

    def test_ordinary(self):
        self.gives(("c", ("a", "b")), mirror, SMALL, "")
        self.gives((("b", "a"), "c"), mirror, SMALL, "0")
        self.gives(("a", ("b", (("d", "e"), "c"))), mirror, ("a", ("b", ("c", ("d", "e")))), "11")
        self.gives(((("c", "b"), "a"), "d"), mirror, ((("b", "c"), "a"), "d"), "00")

    def test_all_small_trees(self):
        for tree in all_shapes(LETTERS[:5]):
            for fork in prefixes(tree):
                at = len(fork)
                turned = {
                    name: fork + "10"[int(way[at])] + way[at + 1:] if way.startswith(fork) else way
                    for name, way in plain_ways(tree).items()
                }
                self.gives(tree_of_ways(turned), mirror, tree, fork)

    def test_twelve_leaves(self):
        self.assertEqual(plain_ways(mirror(TWELVE, "1" * 10))["l"], "1" * 10 + "0")

    def test_unknown_fork(self):
        for fork in ["1", "00", "01", "000", "11", "x", None, ["0"]]:
            self.fails(UnknownFork, {"fork": fork}, mirror, SMALL, fork)
        self.fails(UnknownFork, {"fork": ""}, mirror, "a", "")


class NormalTest(Case):

    def test_ordinary(self):
        self.gives((("a", "b"), "c"), normal_tree, ("c", ("b", "a")))
        self.gives("a", normal_tree, "a")
        self.gives(("a", "aa"), normal_tree, ("aa", "a"))
        self.gives(("az", "b"), normal_tree, ("b", "az"))

    def test_all_small_trees(self):
        for tree in every_tree(LETTERS[:4]) + all_shapes(list("decba")) + all_shapes(list("bdeac")):
            normal = normal_tree(tree)
            self.gives(normal, normal_tree, normal)
            ways = plain_ways(normal)
            for fork in prefixes(normal):
                beneath = [name for name in ways if ways[name].startswith(fork)]
                self.assertTrue(ways[min(beneath)].startswith(fork + "0"))
            self.assertEqual(groups(tree), groups(normal))

    def test_twelve_leaves(self):
        backwards = comb_tree(LETTERS[11::-1])
        left = "a"
        for name in LETTERS[1:12]:
            left = (left, name)
        self.gives(left, normal_tree, backwards)
        self.gives(TWELVE, normal_tree, TWELVE)


def groups(tree):
    """List the sets of names beneath the forks: exchanging children leaves them alone."""
    ways = plain_ways(tree)
    return sorted([sorted([name for name in ways if ways[name].startswith(fork)]) for fork in prefixes(tree)])


class GraftTest(Case):

    def test_ordinary(self):
        self.gives(("a", "b"), graft, "a", "b", "a")
        self.gives(("b", "a"), graft, "b", "a", "b")
        self.gives(((("a", "d"), "b"), "c"), graft, SMALL, "d", "a")
        self.gives((("a", ("b", "d")), "c"), graft, SMALL, "d", "b")
        self.gives((("a", "b"), ("c", "d")), graft, SMALL, "d", "c")

    def test_up_to_twelve(self):
        eleven = comb_tree(LETTERS[:11])
        self.gives(comb_tree(LETTERS[:12]), graft, eleven, "l", "k")
        self.fails(TooMany, {"most": 12}, graft, TWELVE, "m", "l")

    def test_wrong(self):
        for value in NO_NAMES:
            self.fails(InvalidName, {"name": value}, graft, SMALL, value, "a")
        for writer in ["a", "b", "c"]:
            self.fails(DuplicateWriter, {"writer": writer}, graft, SMALL, writer, "a")
        for beside in ["d", "", "ab", None, ["a"], ("a", "b")]:
            self.fails(UnknownWriter, {"writer": beside}, graft, SMALL, "e", beside)
        self.fails(UnknownWriter, {"writer": "d"}, graft, SMALL, "d", "d")

    def test_order_of_errors(self):
        self.fails(InvalidName, {"name": "A"}, graft, TWELVE, "A", "zz")
        self.fails(DuplicateWriter, {"writer": "b"}, graft, TWELVE, "b", "zz")
        self.fails(UnknownWriter, {"writer": "zz"}, graft, TWELVE, "m", "zz")
        self.fails(DuplicateWriter, {"writer": "b"}, graft, TWELVE, "b", "b")


class PruneTest(Case):

    def test_ordinary(self):
        self.gives("b", prune, ("a", "b"), "a")
        self.gives("a", prune, ("a", "b"), "b")
        self.gives(("b", "c"), prune, SMALL, "a")
        self.gives(("a", "c"), prune, SMALL, "b")
        self.gives(("a", "b"), prune, SMALL, "c")
        self.gives((("a", "b"), ("d", "e")), prune, (("a", "b"), ("c", ("d", "e"))), "c")
        self.gives((("a", "b"), ("c", "e")), prune, (("a", "b"), ("c", ("d", "e"))), "d")

    def test_back_from_graft(self):
        for tree in all_shapes(LETTERS[:5]):
            for beside in LETTERS[:5]:
                self.gives(tree, prune, graft(tree, "new", beside), "new")

    def test_twelve_leaves(self):
        self.gives(comb_tree(LETTERS[1:12]), prune, TWELVE, "a")
        self.gives(comb_tree(LETTERS[:11]), prune, TWELVE, "l")

    def test_wrong(self):
        for writer in ["d", "", "ab", None, ["a"], ("a", "b"), SMALL]:
            self.fails(UnknownWriter, {"writer": writer}, prune, SMALL, writer)
        self.fails(UnknownWriter, {"writer": "b"}, prune, "a", "b")
        self.fails(LastWriter, {}, prune, "a", "a")


class WrongTreesTest(Case):

    def test_invalid_tree_comes_first(self):
        for value in NO_TREES:
            self.fails(InvalidTree, {}, normal_tree, value)
            self.fails(InvalidTree, {}, mirror, value, "0101")
            self.fails(InvalidTree, {}, graft, value, "A", "zz")
            self.fails(InvalidTree, {}, prune, value, "zz")
