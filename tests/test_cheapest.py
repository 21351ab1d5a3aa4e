"""Point 51: the cheapest tree."""

from itertools import product

from forkflags.cheapest import cheapest_tree
from forkflags.costs import row_turns
from forkflags.errors import InvalidName, TooMany
from forkflags.listing import all_trees
from forkflags.trees import is_tree, leaf_names
from tests.helpers import LETTERS, NO_NAMES, Case, every_tree
from tests.test_costs import plain_turns
from tests.test_history import drawn


def drawn_names(names, many, number):
    draw = drawn(number)
    return [names[draw(len(names))] for _ in range(many)]


class CheapestTest(Case):

    def answer_is_right(self, row):
        """Ask for everything but the least cost, and return the cost."""
        answer = cheapest_tree(row)
        self.assertIs(answer.__class__, tuple)
        cost, tree = answer
        self.assertTrue(is_tree(tree))
        self.assertEqual(sorted(leaf_names(tree)), sorted(set(row)))
        self.assertEqual(row_turns(tree, row), cost)
        self.assertEqual(plain_turns(tree, row), cost)
        self.first_is_left(tree, row)
        self.gives(answer, cheapest_tree, row)
        return cost

    def first_is_left(self, tree, row):
        if not isinstance(tree, str):
            left, right = tree
            beneath = [name for name in row if name in leaf_names(tree)]
            self.assertIn(beneath[0], leaf_names(left))
            self.first_is_left(left, row)
            self.first_is_left(right, row)

    def test_one_entry(self):
        for name in ["a", "zz", "abcdefgh"]:
            self.gives((0, name), cheapest_tree, [name])
            self.gives((0, name), cheapest_tree, [name] * 5)

    def test_two_writers(self):
        self.gives((1, ("b", "a")), cheapest_tree, ["b", "a"])
        self.gives((3, ("a", "b")), cheapest_tree, ["a", "b", "a", "a", "b"])

    def test_three_writers(self):
        # For these rows every other tree has more turns.
        self.gives((4, (("c", "a"), "b")), cheapest_tree, list("cbcab"))
        self.gives((4, (("c", "b"), "a")), cheapest_tree, list("cacba"))
        self.gives((3, ("c", ("a", "b"))), cheapest_tree, list("cabc"))
        self.gives((6, ("c", ("b", "a"))), cheapest_tree, list("cbacabc"))

    def test_all_short_rows(self):
        for many in range(1, 6):
            for row in product("acb", repeat=many):
                names = sorted(set(row))
                least = min([plain_turns(tree, row) for tree in every_tree(names)])
                self.assertEqual(self.answer_is_right(list(row)), least)

    def test_all_trees_of_four_and_five_writers(self):
        for number in range(12):
            row = drawn_names(list("bdac"), 6 + number * 2, number)
            least = min([plain_turns(tree, row) for tree in every_tree(sorted(set(row)))])
            self.assertEqual(self.answer_is_right(row), least)
        for number in range(3):
            row = drawn_names(["b", "e", "aa", "c", "d"], 8 + number * 5, number)
            least = min([row_turns(tree, row) for tree in every_tree(sorted(set(row)))])
            self.assertEqual(self.answer_is_right(row), least)

    def test_six_and_seven_writers(self):
        for many in [6, 7]:
            row = LETTERS[many - 1::-1] + drawn_names(LETTERS[:many], 30, many)
            cost = self.answer_is_right(row)
            for at, tree in enumerate(all_trees(LETTERS[:many])):
                if at % 10 == 0:
                    # The trees that are listed have other sides, so each fork can cost one turn more.
                    self.assertLessEqual(cost, row_turns(tree, row))

    def test_long_row(self):
        row = drawn_names(LETTERS[:7], 5000, 3)
        self.assertLess(self.answer_is_right(row), 5000 * 3)

    def test_more_than_seven_writers(self):
        for many in [8, 9, 12, 26]:
            self.fails(TooMany, {"most": 7}, cheapest_tree, LETTERS[:many])
            self.fails(TooMany, {"most": 7}, cheapest_tree, LETTERS[:many] * 2)
        self.answer_is_right(LETTERS[:7] * 3)

    def test_wrong_names(self):
        for value in NO_NAMES:
            self.fails(InvalidName, {"name": value}, cheapest_tree, [value])
            self.fails(InvalidName, {"name": value}, cheapest_tree, ["a", "b", value, "B"])
            self.fails(InvalidName, {"name": value}, cheapest_tree, LETTERS[:9] + [value])
