"""Points 23 to 26, and point 3 for fork plans."""

from itertools import combinations

from forkflags.budgets import fit_tree
from forkflags.errors import (
    InvalidBudget, InvalidName, InvalidState, InvalidTree, SumTooGreat, TooMany, UnknownFork, UnknownWriter,
)
from forkflags.forkplan import ForkPlan
from forkflags.notation import format_tree
from forkflags.shares import Share
from tests.helpers import LETTERS, NO_TREES, Case, all_shapes, all_states, comb_tree, plain_ways
from tests.test_plans import NO_STATES, NO_WRITERS

TREE = (("a", "b"), "c")
COMB = comb_tree(LETTERS[:12])
SMALL_TREES = [
    "a", ("a", "b"), ("b", "a"), TREE, ("b", ("c", "a")), *all_shapes(list("badc")), (("d", "a"), ("c", "b")),
]


def plain_flags(tree):
    """Return the fork of each flag of a tree in order, found without the program."""
    ways = plain_ways(tree)
    return [ways[name][:level] for name in sorted(ways) for level in range(len(ways[name]))]


def plain_boards(tree, state):
    """Return a dict from each fork to its board, found without the program."""
    boards = {}
    for fork, mark in zip(plain_flags(tree), state):
        boards[fork] = (boards.get(fork, 0) + mark) % 2
    return boards


def plain_told(tree, state, fork=""):
    """Return the leaf to which the boards lead from this fork, found without the program."""
    boards = plain_boards(tree, state)
    leaves = {way: name for name, way in plain_ways(tree).items()}
    while fork not in leaves:
        fork += str(boards[fork])
    return leaves[fork]


class ExamplesTest(Case):

    def test_examples(self):
        plan = ForkPlan(TREE)
        self.assertEqual(plan.cells, [("a", 0), ("a", 1), ("b", 0), ("b", 1), ("c", 0)])
        self.gives("c", plan.told, (0, 0, 0, 0, 1))
        self.gives_new([(3, 1), (2, 1)], plan.turns, (0, 0, 0, 0, 1), "b")
        self.gives((0, 0, 0, 1, 1), plan.updated, (0, 0, 0, 0, 1), "b", 1)
        self.gives_new(["0", ""], plan.wrong_forks, (0, 0, 0, 0, 1), "b")
        self.gives(8, plan.told_count, "b")


class CellsTest(Case):

    def test_attributes(self):
        for tree in [*SMALL_TREES, COMB, ("zz", ("aa", "m"))]:
            plan = ForkPlan(tree)
            ways = plain_ways(tree)
            names = sorted(ways)
            self.assertEqual(plan.tree, tree)
            self.assertEqual(plan.names, names)
            self.assertEqual(plan.cells, [(name, level) for name in names for level in range(len(ways[name]))])
            self.assertEqual(plan.sizes, [2] * len(plan.cells))
            self.assertEqual(str(plan), format_tree(tree))

    def test_written(self):
        self.assertEqual(str(ForkPlan(TREE)), "((a b) c)")
        self.assertEqual(str(ForkPlan("a")), "a")
        self.assertEqual(f"{ForkPlan(('b', 'a'))}", "(b a)")

    def test_one_writer(self):
        plan = ForkPlan("zz")
        self.assertEqual([plan.names, plan.cells, plan.sizes, plan.tree], [["zz"], [], [], "zz"])
        self.gives("zz", plan.told, ())
        self.gives_new([], plan.turns, (), "zz")
        self.gives_new([], plan.wrong_forks, (), "zz")
        self.gives(1, plan.told_count, "zz")
        self.fails(UnknownFork, {"fork": ""}, plan.board, (), "")
        self.fails(UnknownFork, {"fork": ""}, plan.told_below, (), "")
        self.fails(UnknownFork, {"fork": ""}, plan.flags_at, "")
        self.fails(InvalidState, {}, plan.fork_of, 0)
        self.fails(InvalidState, {}, plan.told, (0,))

    def test_invalid_tree(self):
        for value in NO_TREES:
            self.fails(InvalidTree, {}, ForkPlan, value)

    def test_flags_and_forks(self):
        for tree in [*SMALL_TREES, COMB, *all_shapes(list("cbead"))]:
            plan = ForkPlan(tree)
            flags = plain_flags(tree)
            for index, fork in enumerate(flags):
                self.gives(fork, plan.fork_of, index)
            for fork in set(flags):
                self.gives_new([index for index, other in enumerate(flags) if other == fork], plan.flags_at, fork)

    def test_written_out_flags(self):
        plan = ForkPlan(TREE)
        self.assertEqual([plan.fork_of(index) for index in range(5)], ["", "0", "", "0", ""])
        self.gives_new([0, 2, 4], plan.flags_at, "")
        self.gives_new([1, 3], plan.flags_at, "0")

    def test_no_flags_and_no_forks(self):
        plan = ForkPlan(TREE)
        for index in [5, 6, -1, -5, 10 ** 30, None, True, False, "0", [0]]:
            self.fails(InvalidState, {}, plan.fork_of, index)
        for fork in ["1", "00", "01", "000", "x", None, ["0"], 0]:
            self.fails(UnknownFork, {"fork": fork}, plan.flags_at, fork)
            self.fails(UnknownFork, {"fork": fork}, plan.board, plan.start(), fork)
            self.fails(UnknownFork, {"fork": fork}, plan.told_below, plan.start(), fork)


class FittedTest(Case):

    def test_fitted(self):
        for budgets in [{"a": 2, "b": 2, "c": 2}, {"d": 3, "b": 2, "a": 1, "c": 3}, {"a": 30}, {"a": 1, "b": 30}]:
            plan = ForkPlan.fitted(budgets)
            self.assertIs(plan.__class__, ForkPlan)
            self.assertEqual(plan.tree, fit_tree(budgets))
            self.assertEqual(plan.cells, ForkPlan(fit_tree(budgets)).cells)
            self.assertTrue(all([len(plan.cells_of(name)) <= budgets[name] for name in budgets]))

    def test_errors(self):
        self.fails(TooMany, {"most": 12}, ForkPlan.fitted, {name: 0 for name in [*LETTERS[:12], "A"]})
        self.fails(InvalidName, {"name": "A"}, ForkPlan.fitted, {"A": 1, "a": -1})
        self.fails(InvalidBudget, {"writer": "b"}, ForkPlan.fitted, {"c": 31, "b": 31, "a": 0})
        self.fails(SumTooGreat, {"total": Share(5, 4)}, ForkPlan.fitted, {"a": 1, "b": 1, "c": 2})


class ReadingTest(Case):

    def test_boards_and_leaves(self):
        for tree in SMALL_TREES:
            plan = ForkPlan(tree)
            for state in all_states(plan.sizes):
                self.assertEqual(plan.told(state), plain_told(tree, state))
                for fork, board in plain_boards(tree, state).items():
                    self.gives(board, plan.board, state, fork)
                    self.gives(plain_told(tree, state, fork), plan.told_below, state, fork)

    def test_start_and_all_ones(self):
        plan = ForkPlan(COMB)
        self.gives("a", plan.told, plan.start())
        ones = (1,) * 77
        boards = plain_boards(COMB, ones)
        for fork, board in boards.items():
            self.gives(board, plan.board, ones, fork)
            self.gives(plain_told(COMB, ones, fork), plan.told_below, ones, fork)
        # The fork of level k has 12 - k flags, so the first odd one is that of level 1.
        self.gives("a", plan.told, ones)
        self.gives("l", plan.told_below, plan.turned(ones, [(76, 0)]), "1" * 10)

    def test_errors_in_order(self):
        plan = ForkPlan(TREE)
        for state in NO_STATES:
            for method in [plan.board, plan.told_below]:
                self.fails(InvalidState, {}, method, state, "")
                self.fails(InvalidState, {}, method, state, "x")
            for method in [plan.wrong_forks, plan.turns]:
                self.fails(InvalidState, {}, method, state, "a")
                self.fails(InvalidState, {}, method, state, "zz")
            self.fails(InvalidState, {}, plan.told, state)
        for writer in NO_WRITERS:
            self.fails(UnknownWriter, {"writer": writer}, plan.wrong_forks, plan.start(), writer)
            self.fails(UnknownWriter, {"writer": writer}, plan.turns, plan.start(), writer)
            self.fails(UnknownWriter, {"writer": writer}, plan.told_count, writer)
        for fork in ["a", "1"]:
            self.fails(UnknownFork, {"fork": fork}, plan.board, plan.start(), fork)


class UpdateTest(Case):

    def update_is_right(self, plan, state, writer):
        """Ask for points 3 and 25 of one update, and return the number of its turns."""
        told = plain_told(plan.tree, state)
        way = plain_ways(plan.tree)[writer]
        boards = plain_boards(plan.tree, state)
        wrong = [way[:at] for at in range(len(way)) if str(boards[way[:at]]) != way[at]][::-1]
        self.gives_new(wrong, plan.wrong_forks, state, writer)
        turns = plan.turns(state, writer)
        self.gives_new(turns, plan.turns, state, writer)
        self.assertEqual(turns == [], told == writer)
        self.assertEqual([plan.fork_of(index) for index, _ in turns], wrong)
        now = state
        for done, (index, mark) in enumerate(turns):
            self.assertEqual(plain_told(plan.tree, now), told)
            self.assertEqual(plan.cells[index][0], writer)
            self.assertEqual(mark, 1 - now[index])
            before = plain_boards(plan.tree, now)
            now = now[:index] + (mark,) + now[index + 1:]
            after = plain_boards(plan.tree, now)
            self.assertEqual([fork for fork in before if before[fork] != after[fork]], [wrong[done]])
            self.assertEqual(plan.updated(state, writer, done + 1), now)
        self.assertEqual(plain_told(plan.tree, now), writer)
        self.assertEqual(plan.updated(state, writer), now)
        if turns:
            other = plain_ways(plan.tree)[told]
            self.assertTrue(other.startswith(wrong[-1]) and other[len(wrong[-1])] != way[len(wrong[-1])])
        return len(turns)

    def test_small_plans(self):
        for tree in SMALL_TREES:
            plan = ForkPlan(tree)
            most = {name: 0 for name in plan.names}
            for state in all_states(plan.sizes):
                for writer in plan.names:
                    most[writer] = max(most[writer], self.update_is_right(plan, state, writer))
            self.assertEqual(most, {name: len(way) for name, way in plain_ways(tree).items()})

    def test_twelve_writers(self):
        plan = ForkPlan(COMB)
        alternate = tuple([index % 2 for index in range(77)])
        for state in [plan.start(), (1,) * 77, alternate]:
            for writer in plan.names:
                self.update_is_right(plan, state, writer)
        now = plan.start()
        for writer in LETTERS[11::-1] + ["c", "l", "a", "k"]:
            self.update_is_right(plan, now, writer)
            now = plan.updated(now, writer)
            self.gives("l" if writer == "l" else writer, plan.told, now)

    def test_after_cut_updates(self):
        plan = ForkPlan(COMB)
        now = plan.start()
        told = "a"
        for step in range(60):
            writer = LETTERS[step * 7 % 12]
            many = len(plan.turns(now, writer))
            done = step % (many + 1)
            self.update_is_right(plan, now, writer)
            now = plan.updated(now, writer, done)
            told = writer if done == many else told
            self.gives(told, plan.told, now)

    def test_no_shorter_list(self):
        for tree in SMALL_TREES:
            plan = ForkPlan(tree)
            for state in all_states(plan.sizes):
                for writer in plan.names:
                    many = len(plan.turns(state, writer))
                    for fewer in range(many):
                        for flags in combinations(plan.cells_of(writer), fewer):
                            now = plan.turned(state, [(index, 1 - state[index]) for index in flags])
                            self.assertNotEqual(plain_told(tree, now), writer)


class CountTest(Case):

    def test_told_count(self):
        for tree in SMALL_TREES:
            plan = ForkPlan(tree)
            told = [plain_told(tree, state) for state in all_states(plan.sizes)]
            for writer in plan.names:
                self.gives(told.count(writer), plan.told_count, writer)

    def test_twelve_writers(self):
        plan = ForkPlan(COMB)
        for level, name in enumerate(LETTERS[:11]):
            self.gives(2 ** (76 - level), plan.told_count, name)
        self.gives(2 ** 66, plan.told_count, "l")
