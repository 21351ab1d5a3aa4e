"""Points 10, 11 and 12: trees."""

from forkflags.errors import InvalidTree, UnknownFork, UnknownWriter
from forkflags.trees import forks_of, height_of, is_tree, leaf_names, names_beneath, way_of, ways_of
from tests.helpers import LETTERS, NO_TREES, Case, all_shapes, comb_tree, every_tree, plain_ways

TWELVE = LETTERS[:12]
MIXED = (("d", ("b", "e")), ("a", "c"))


class IsTreeTest(Case):

    def test_trees(self):
        for many in range(1, 6):
            for tree in all_shapes(LETTERS[:many]):
                self.gives(True, is_tree, tree)
        for tree in ["a", "abcdefgh", ("b", "a"), comb_tree(TWELVE), ("abcdefgh", "hgfedcba"), ("a", "aa")]:
            self.gives(True, is_tree, tree)

    def test_no_trees(self):
        for value in NO_TREES:
            self.gives(False, is_tree, value)

    def test_leaves(self):
        six, seven = comb_tree(LETTERS[:6]), comb_tree(LETTERS[6:13])
        self.gives(True, is_tree, (six, comb_tree(LETTERS[6:12])))
        self.gives(False, is_tree, (six, seven))
        self.gives(False, is_tree, (seven, six))

    def test_same_name_anywhere(self):
        for at in range(1, 12):
            names = TWELVE[:at] + ["a"] + TWELVE[at + 1:]
            self.gives(False, is_tree, comb_tree(names))


class WaysTest(Case):

    def test_examples(self):
        self.gives_new({"a": "00", "b": "01", "c": "1"}, ways_of, (("a", "b"), "c"))
        self.gives_new(["", "0", "1"], forks_of, (("a", "b"), ("c", "d")))

    def test_one_leaf(self):
        self.gives_new(["a"], leaf_names, "a")
        self.gives_new({"a": ""}, ways_of, "a")
        self.gives("", way_of, "a", "a")
        self.gives_new([], forks_of, "a")
        self.gives(0, height_of, "a")
        self.fails(UnknownFork, {"fork": ""}, names_beneath, "a", "", 0)
        self.fails(UnknownWriter, {"writer": "b"}, way_of, "a", "b")

    def test_all_small_trees(self):
        for tree in every_tree(LETTERS[:4]) + all_shapes(list("fbeacd")):
            ways = plain_ways(tree)
            self.gives_new(list(ways), leaf_names, tree)
            self.gives_new(ways, ways_of, tree)
            self.assertEqual(list(ways_of(tree)), list(ways))
            self.gives(max([len(way) for way in ways.values()]), height_of, tree)
            for name, way in ways.items():
                self.gives(way, way_of, tree, name)

    def test_forks_in_order(self):
        self.gives_new(["", "0", "01", "1"], forks_of, MIXED)
        for tree in all_shapes(LETTERS[:6]):
            prefixes = [way[:level] for way in plain_ways(tree).values() for level in range(len(way))]
            self.gives_new(sorted(set(prefixes)), forks_of, tree)

    def test_names_beneath(self):
        self.gives_new(["d", "b", "e"], names_beneath, MIXED, "", 0)
        self.gives_new(["a", "c"], names_beneath, MIXED, "", 1)
        self.gives_new(["d"], names_beneath, MIXED, "0", 0)
        self.gives_new(["b", "e"], names_beneath, MIXED, "0", 1)
        self.gives_new(["b"], names_beneath, MIXED, "01", 0)
        self.gives_new(["e"], names_beneath, MIXED, "01", 1)
        self.gives_new(["c"], names_beneath, MIXED, "1", 1)

    def test_twelve_leaves(self):
        tree = comb_tree(TWELVE)
        self.gives_new(TWELVE, leaf_names, tree)
        self.gives_new(["1" * level for level in range(11)], forks_of, tree)
        self.gives(11, height_of, tree)
        self.gives("1" * 11, way_of, tree, "l")
        self.gives("1" * 10 + "0", way_of, tree, "k")
        self.gives_new(["l"], names_beneath, tree, "1" * 10, 1)
        self.gives_new(TWELVE[3:], names_beneath, tree, "11", 1)


class WrongTreesTest(Case):

    def test_invalid_tree_comes_first(self):
        for value in NO_TREES:
            for function in [leaf_names, ways_of, forks_of, height_of]:
                self.fails(InvalidTree, {}, function, value)
            self.fails(InvalidTree, {}, way_of, value, "zz")
            self.fails(InvalidTree, {}, names_beneath, value, "0101", 0)

    def test_unknown_writer(self):
        for writer in ["d", "aa", "", "A", "ab", None, ["a"], ("a", "b")]:
            self.fails(UnknownWriter, {"writer": writer}, way_of, (("a", "b"), "c"), writer)

    def test_unknown_fork(self):
        for fork in ["1", "00", "01", "000", "10", "2", "x", None, ["0"], 0]:
            for side in [0, 1]:
                self.fails(UnknownFork, {"fork": fork}, names_beneath, (("a", "b"), "c"), fork, side)
