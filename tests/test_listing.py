"""Points 19 and 20: numbers of trees."""

from forkflags.errors import DuplicateWriter, InvalidName, InvalidState, InvalidTree, TooMany
from forkflags.listing import all_trees, tree_at, tree_count, tree_number
from forkflags.shaping import normal_tree
from forkflags.trees import is_tree
from tests.helpers import LETTERS, NO_NAMES, NO_TREES, Case, comb_tree, every_tree

COUNTS = [1, 1, 3, 15, 105, 945, 10395, 135135, 2027025, 34459425, 654729075, 13749310575]
TWELVE = LETTERS[:12]


def subtrees(tree):
    """List the subtrees in the order of their numbers, without the program."""
    return [tree] if isinstance(tree, str) else [tree, *subtrees(tree[0]), *subtrees(tree[1])]


def with_fork(tree, part, writer):
    if tree == part:
        return (tree, writer)
    if isinstance(tree, str):
        return tree
    return (with_fork(tree[0], part, writer), with_fork(tree[1], part, writer))


def plain_list(names):
    """List all normal trees over ascending names in the order of their numbers, without the program."""
    if len(names) == 1:
        return [names[0]]
    return [with_fork(tree, part, names[-1]) for tree in plain_list(names[:-1]) for part in subtrees(tree)]


class CountTest(Case):

    def test_counts(self):
        for count in range(1, 13):
            self.gives(COUNTS[count - 1], tree_count, count)

    def test_counts_are_those_of_the_trees(self):
        for count in range(1, 6):
            normal = {normal_tree(tree) for tree in every_tree(LETTERS[:count])}
            self.gives(len(normal), tree_count, count)


class TreeAtTest(Case):

    def test_small(self):
        for count in range(1, 7):
            names = LETTERS[:count]
            wanted = plain_list(names)
            self.assertEqual(len(wanted), COUNTS[count - 1])
            for number, tree in enumerate(wanted):
                self.gives(tree, tree_at, names[::-1], number)
                self.gives(number, tree_number, tree)
                self.assertEqual(normal_tree(tree), tree)
            self.assertEqual(len(set(wanted)), len(wanted))
            self.assertEqual(list(all_trees(names)), wanted)

    def test_other_names(self):
        self.gives((("aa", "b"), "zz"), tree_at, ["zz", "aa", "b"], 0)
        self.gives((("aa", "zz"), "b"), tree_at, ["zz", "aa", "b"], 1)
        self.gives(("aa", ("b", "zz")), tree_at, ["zz", "aa", "b"], 2)
        self.gives(2, tree_number, (("zz", "b"), "aa"))

    def test_number_of_a_tree_that_is_not_normal(self):
        for tree in every_tree(LETTERS[:4]):
            self.gives(plain_list(LETTERS[:4]).index(normal_tree(tree)), tree_number, tree)

    def test_twelve_names(self):
        last = COUNTS[11] - 1
        left = "a"
        for name in TWELVE[1:]:
            left = (left, name)
        self.gives(left, tree_at, TWELVE, 0)
        self.gives(0, tree_number, left)
        self.gives(comb_tree(TWELVE), tree_at, TWELVE, last)
        self.gives(last, tree_number, comb_tree(TWELVE))
        self.gives(last, tree_number, comb_tree(TWELVE[:10] + ["l", "k"]))
        for number in range(1, last, last // 97):
            tree = tree_at(TWELVE, number)
            self.assertTrue(is_tree(tree))
            self.assertEqual(normal_tree(tree), tree)
            self.gives(number, tree_number, tree)

    def test_one_name(self):
        self.gives("a", tree_at, ["a"], 0)
        self.gives(0, tree_number, "a")
        self.assertEqual(list(all_trees(["a"])), ["a"])

    def test_wrong_numbers(self):
        for count in range(1, 13):
            for number in [-1, COUNTS[count - 1], COUNTS[count - 1] + 1, 10 ** 40, -10 ** 40]:
                self.fails(InvalidState, {}, tree_at, LETTERS[:count], number)

    def test_wrong_names(self):
        self.fails(TooMany, {"most": 12}, tree_at, LETTERS[:13], -1)
        self.fails(TooMany, {"most": 12}, tree_at, ["A"] * 13, -1)
        self.fails(InvalidName, {"name": "A"}, tree_at, ["b", "A", "b"], -1)
        self.fails(DuplicateWriter, {"writer": "b"}, tree_at, ["b", "b", "A"], -1)
        for value in NO_NAMES:
            self.fails(InvalidName, {"name": value}, tree_at, ["a", value], 0)

    def test_invalid_tree(self):
        for value in NO_TREES:
            self.fails(InvalidTree, {}, tree_number, value)


class AllTreesTest(Case):

    def test_example(self):
        self.assertEqual(
            list(all_trees(["c", "a", "b"])), [(("a", "b"), "c"), (("a", "c"), "b"), ("a", ("b", "c"))],
        )

    def test_names_stay(self):
        names = ["c", "a", "b"]
        trees = all_trees(names)
        first = next(trees)
        self.assertEqual(names, ["c", "a", "b"])
        names.clear()
        self.assertEqual([first, *trees], plain_list(["a", "b", "c"]))

    def test_errors_when_the_iteration_begins(self):
        for names, error, attributes in [
            (LETTERS[:13], TooMany, {"most": 12}), (["A"] * 13, TooMany, {"most": 12}),
            (["b", "A", "b"], InvalidName, {"name": "A"}), (["b", "b", "A"], DuplicateWriter, {"writer": "b"}),
        ]:
            trees = all_trees(names)
            self.fails(error, attributes, lambda: next(trees))
            self.fails(error, attributes, lambda: list(all_trees(names)))

    def test_twelve_names(self):
        trees = all_trees(TWELVE)
        for number in range(5):
            self.assertEqual(next(trees), tree_at(TWELVE, number))
