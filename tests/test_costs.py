"""Points 48 to 50: what updates cost."""

from itertools import product

from forkflags.costs import dearest_rate, dearest_row, most_turns, row_turns, side_changes
from forkflags.errors import InvalidTree, TooMany, UnknownWriter
from forkflags.forkplan import ForkPlan
from forkflags.shares import Share
from forkflags.trees import forks_of, height_of, leaf_names
from tests.helpers import LETTERS, NO_TREES, Case, all_shapes, comb_tree, every_tree, plain_ways
from tests.test_forkplan import SMALL_TREES, TREE
from tests.test_history import drawn
from tests.test_routes import EVEN

COMB = comb_tree(LETTERS[:12])
NO_WRITERS = ["d", "", "A", "ab", None, 0, True, ["a"], {}, (), ("a", "b")]


def plain_forks(tree, way=""):
    """Return the forks of a tree in order, found without the program."""
    if isinstance(tree, str):
        return []
    return [way, *plain_forks(tree[0], way + "0"), *plain_forks(tree[1], way + "1")]


def plain_changes(tree, row):
    ways = plain_ways(tree)
    found = {}
    for fork in plain_forks(tree):
        sides = [ways[name][len(fork)] for name in row if ways[name].startswith(fork) and ways[name] != fork]
        found[fork] = len([at for at in range(1, len(sides)) if sides[at] != sides[at - 1]])
    return found


def plain_turns(tree, row):
    """Return the number of turns of a row by making its updates."""
    plan = ForkPlan(tree)
    now, many = plan.start(), 0
    for writer in row:
        turns = plan.turns(now, writer)
        now, many = plan.turned(now, turns), many + len(turns)
    return many


def drawn_row(tree, many, number):
    draw = drawn(number)
    names = leaf_names(tree)
    return [names[draw(len(names))] for _ in range(many)]


class ExamplesTest(Case):

    def test_examples(self):
        row = ["a", "c", "b", "a"]
        self.gives_new({"": 2, "0": 2}, side_changes, TREE, row)
        self.gives(4, row_turns, TREE, row)
        self.gives(3, most_turns, ("a", ("b", "c")), 2)
        self.assertEqual(str(dearest_rate((("a", "b"), ("c", "d")))), "2")


class ChangesTest(Case):

    def rows_of(self, tree):
        for number in range(30):
            yield drawn_row(tree, number, number)

    def test_changes(self):
        for tree in [*SMALL_TREES, COMB, EVEN]:
            for row in self.rows_of(tree):
                wanted = plain_changes(tree, row)
                self.gives_new(wanted, side_changes, tree, row)
                self.assertEqual(list(side_changes(tree, row)), forks_of(tree))

    def test_turns(self):
        for tree in [*SMALL_TREES, COMB, EVEN]:
            for row in self.rows_of(tree):
                self.gives(plain_turns(tree, row), row_turns, tree, row)

    def test_all_rows(self):
        for many in range(6):
            for row in product("abc", repeat=many):
                for tree in [TREE, ("c", ("b", "a"))]:
                    self.assertEqual(row_turns(tree, list(row)), plain_turns(tree, row))
                    self.assertEqual(side_changes(tree, list(row)), plain_changes(tree, row))

    def test_first_writer_on_the_right(self):
        self.gives(0, row_turns, TREE, ["a"])
        self.gives(1, row_turns, TREE, ["b"])
        self.gives(1, row_turns, TREE, ["c"])
        self.gives(3, row_turns, TREE, ["c", "b"])
        self.gives_new({"": 1, "0": 0}, side_changes, TREE, ["c", "b"])

    def test_rows_of_no_entry_and_of_one(self):
        for tree in [*SMALL_TREES, COMB]:
            self.gives_new({fork: 0 for fork in plain_forks(tree)}, side_changes, tree, [])
            self.gives(0, row_turns, tree, [])
            for name, way in plain_ways(tree).items():
                self.gives_new({fork: 0 for fork in plain_forks(tree)}, side_changes, tree, [name])
                self.gives(way.count("1"), row_turns, tree, [name])

    def test_one_writer(self):
        for many in [0, 1, 5]:
            self.gives_new({}, side_changes, "a", ["a"] * many)
            self.gives(0, row_turns, "a", ["a"] * many)

    def test_long_row(self):
        row = drawn_row(COMB, 3000, 7)
        self.gives(plain_turns(COMB, row), row_turns, COMB, row)

    def test_errors(self):
        for value in NO_TREES:
            self.fails(InvalidTree, {}, side_changes, value, ["zz"])
            self.fails(InvalidTree, {}, row_turns, value, ["zz"])
        for writer in NO_WRITERS:
            for row in [[writer], ["a", "b", writer, "zz"], [writer, "x", writer]]:
                self.fails(UnknownWriter, {"writer": writer}, side_changes, TREE, row)
                self.fails(UnknownWriter, {"writer": writer}, row_turns, TREE, row)


class MostTest(Case):

    def test_all_rows(self):
        for tree, most in [("a", 6), (("b", "a"), 8), (TREE, 6), (("a", ("b", "c")), 6)]:
            names = leaf_names(tree)
            for many in range(most + 1):
                wanted = max([plain_turns(tree, row) for row in product(names, repeat=many)])
                self.gives(wanted, most_turns, tree, many)
                self.dearest_is_right(tree, many)

    def test_all_rows_of_four_writers(self):
        for tree in [*all_shapes(list("badc")), (("d", "a"), ("c", "b"))]:
            for many in range(5):
                wanted = max([plain_turns(tree, row) for row in product("abcd", repeat=many)])
                self.gives(wanted, most_turns, tree, many)

    def dearest_is_right(self, tree, many):
        row = dearest_row(tree, many)
        self.assertIs(row.__class__, list)
        self.assertEqual(len(row), many)
        self.assertEqual(plain_turns(tree, row), most_turns(tree, many))
        self.gives_new(row, dearest_row, tree, many)

    def test_dearest_row(self):
        for tree in [*SMALL_TREES, *all_shapes(list("dabec"))]:
            for many in [0, 1, 2, 3, 5, 8, 13, 64]:
                self.dearest_is_right(tree, many)
        for tree in [COMB, EVEN]:
            for many in [0, 1, 11, 12, 13, 40, 63, 64]:
                self.dearest_is_right(tree, many)

    def test_no_row_has_more(self):
        for tree in [COMB, EVEN, *SMALL_TREES]:
            for number in range(20):
                row = drawn_row(tree, number * 3, number)
                self.assertLessEqual(plain_turns(tree, row), most_turns(tree, len(row)))

    def test_counts_0_and_1(self):
        for tree in [*SMALL_TREES, COMB, EVEN]:
            self.gives(0, most_turns, tree, 0)
            self.gives_new([], dearest_row, tree, 0)
            self.gives(max([way.count("1") for way in plain_ways(tree).values()]), most_turns, tree, 1)

    def test_two_writers(self):
        for many in range(65):
            self.gives(many, most_turns, ("a", "b"), many)

    def test_leaf(self):
        for many in [0, 1, 64]:
            self.gives(0, most_turns, "a", many)
            self.gives_new(["a"] * many, dearest_row, "a", many)

    def test_errors(self):
        for value in NO_TREES:
            for many in [0, 1, 65]:
                self.fails(InvalidTree, {}, most_turns, value, many)
                self.fails(InvalidTree, {}, dearest_row, value, many)
        for tree in ["a", TREE, COMB]:
            for many in [65, 66, 10 ** 30]:
                self.fails(TooMany, {"most": 64}, most_turns, tree, many)
                self.fails(TooMany, {"most": 64}, dearest_row, tree, many)


class RateTest(Case):

    def test_written_out(self):
        for tree, rate in [
            ("a", Share(0)), (("a", "b"), Share(1)), (TREE, Share(3, 2)), (("a", ("b", "c")), Share(3, 2)),
            ((("a", "b"), ("c", "d")), Share(2)), ((TREE, "d"), Share(7, 4)),
            (comb_tree(LETTERS[:12]), Share(2047, 1024)),
        ]:
            self.gives(rate, dearest_rate, tree)

    def test_child_that_is_dearer(self):
        even = ((("a", "b"), ("c", "d")), (("e", "f"), ("g", "h")))
        self.gives(Share(3), dearest_rate, even)
        for tree in [(even, "i"), ("i", even)]:
            self.gives(Share(3), dearest_rate, tree)
        self.gives(Share(3), dearest_rate, ("j", (even, "i")))
        self.gives(Share(13, 4), dearest_rate, (even, TREE_OF_REST))

    def test_bounds(self):
        trees = [*SMALL_TREES, *every_tree(list("abcd"))[::7], *all_shapes(list("dabec"))]
        for tree in [*trees, (((("a", "b"), ("c", "d")), (("e", "f"), ("g", "h"))), "i")]:
            rate = dearest_rate(tree)
            forks = len(forks_of(tree))
            for many in range(0, 65, 1 if forks < 4 else 4):
                most = most_turns(tree, many)
                self.assertLessEqual(most * rate.bottom, rate.top * many + forks * rate.bottom)
                if many % 2 ** height_of(tree) == 0:
                    self.assertGreaterEqual(most * rate.bottom, rate.top * many)

    def test_bounds_of_twelve_writers(self):
        for tree in [EVEN, COMB]:
            rate = dearest_rate(tree)
            for many in [0, 16, 32, 48, 63, 64]:
                most = most_turns(tree, many)
                self.assertLessEqual(most * rate.bottom, rate.top * many + 11 * rate.bottom)
                if many % 2 ** height_of(tree) == 0:
                    self.assertGreaterEqual(most * rate.bottom, rate.top * many)

    def test_invalid_tree(self):
        for value in NO_TREES:
            self.fails(InvalidTree, {}, dearest_rate, value)


TREE_OF_REST = (("i", "j"), "k")
