"""Points 27 and 28: flags that are not known."""

from itertools import product

from forkflags.errors import InvalidState
from forkflags.forkplan import ForkPlan
from forkflags.partial import needed_cells, possible_told, sure_told
from tests.helpers import LETTERS, Case, all_shapes, all_states, comb_tree, plain_ways
from tests.test_forkplan import SMALL_TREES, TREE, plain_flags, plain_told

COMB = comb_tree(LETTERS[:12])
NO_MARKS = [
    [0, 0, 0, 0], [0] * 6, [], (), (0,) * 4, (0,) * 6, [2, 0, 0, 0, 0], [0, 0, -1, 0, 0], [True, 0, 0, 0, 0],
    [0, 0, 0, 0, False], (None, None, None, None, True), (False, None, None, None, None), [0, "0", 0, 0, 0],
    [0, 0, 0, 1.0, 0], [0, 0, [], 0, 0], [None] * 6, (None,) * 4, [0, 0, 0, 0, (0,)], [0, None, "None", 0, 0],
    "00000", None, 5,
]


def completions(marks):
    """List all completions of marks that are not known."""
    return list(product(*[[0, 1] if mark is None else [mark] for mark in marks]))


class PossibleTest(Case):

    def test_example(self):
        self.gives_new({"a": 1, "c": 1}, possible_told, ForkPlan(TREE), [None, 0, 0, 0, 0])

    def test_all_completions(self):
        for tree in SMALL_TREES:
            plan = ForkPlan(tree)
            told = {state: plain_told(tree, state) for state in all_states(plan.sizes)}
            for marks in product([0, 1, None], repeat=len(plan.sizes)):
                # The marks of the greater plans are many, so only some of them are asked.
                if len(marks) > 6 and sum([place * (mark or 3) for place, mark in enumerate(marks)]) % 9:
                    continue
                found = [told[state] for state in completions(marks)]
                wanted = {name: found.count(name) for name in sorted(set(found))}
                given = possible_told(plan, list(marks))
                self.assertEqual(list(given.items()), list(wanted.items()))
                self.assertEqual(possible_told(plan, marks), wanted)
                self.assertEqual(sure_told(plan, list(marks)), found[0] if len(wanted) == 1 else None)
                self.assertEqual(sure_told(plan, marks), sure_told(plan, list(marks)))

    def test_lists_and_tuples(self):
        plan = ForkPlan(("b", ("c", "a")))
        for marks in [[None, 1, 0, None, 0], [0, None, None, 1, 1], [None] * 5, [1, 0, 0, 1, 1]]:
            self.gives_new(possible_told(plan, tuple(marks)), possible_told, plan, marks)
            self.gives_new(possible_told(plan, marks), possible_told, plan, tuple(marks))
            self.gives(sure_told(plan, tuple(marks)), sure_told, plan, marks)

    def test_writers_ascending(self):
        given = possible_told(ForkPlan((("d", "b"), ("c", "a"))), [None] * 8)
        self.assertEqual(list(given.items()), [("a", 64), ("b", 64), ("c", 64), ("d", 64)])

    def test_no_mark_not_known(self):
        plan = ForkPlan(TREE)
        for state in all_states(plan.sizes):
            self.gives_new({plain_told(TREE, state): 1}, possible_told, plan, state)
            self.gives(plain_told(TREE, state), sure_told, plan, list(state))

    def test_77_flags(self):
        plan = ForkPlan(COMB)
        wanted = {name: 2 ** (76 - level) for level, name in enumerate(LETTERS[:11])}
        wanted["l"] = 2 ** 66
        for marks in [[None] * 77, (None,) * 77]:
            self.gives_new(wanted, possible_told, plan, marks)
            self.gives(None, sure_told, plan, marks)
        self.gives_new({"a": 1}, possible_told, plan, [0] * 77)
        self.gives("a", sure_told, plan, (0,) * 77)
        # Only the flags of the top fork are known, and they lead to the leaf on the left.
        top = [0 if plan.fork_of(index) == "" else None for index in range(77)]
        self.gives_new({"a": 2 ** 65}, possible_told, plan, top)
        self.gives("a", sure_told, plan, top)
        top[76 - 10] = 1
        self.gives(None, sure_told, plan, top)
        self.assertEqual(sorted(possible_told(plan, top)), LETTERS[1:12])

    def test_one_writer(self):
        for marks in [[], ()]:
            self.gives_new({"zz": 1}, possible_told, ForkPlan("zz"), marks)
            self.gives("zz", sure_told, ForkPlan("zz"), marks)
            self.fails(InvalidState, {}, possible_told, ForkPlan(TREE), marks)
        self.fails(InvalidState, {}, possible_told, ForkPlan("zz"), [None])

    def test_wrong_marks(self):
        plan = ForkPlan(TREE)
        for marks in NO_MARKS:
            self.fails(InvalidState, {}, possible_told, plan, marks)
            self.fails(InvalidState, {}, sure_told, plan, marks)


class NeededTest(Case):

    def test_flags_on_the_way(self):
        for tree in [*SMALL_TREES, (("d", "a"), (("c", "b"), "e"))]:
            plan = ForkPlan(tree)
            flags = plain_flags(tree)
            for state in all_states(plan.sizes)[::3]:
                way = plain_ways(tree)[plain_told(tree, state)]
                forks = [way[:level] for level in range(len(way))]
                wanted = [index for index, fork in enumerate(flags) if fork in forks]
                self.gives_new(wanted, needed_cells, plan, state)

    def test_written_out(self):
        plan = ForkPlan(TREE)
        self.gives_new([0, 1, 2, 3, 4], needed_cells, plan, (0, 0, 0, 0, 0))
        self.gives_new([0, 2, 4], needed_cells, plan, (0, 0, 0, 0, 1))
        self.gives_new([], needed_cells, ForkPlan("a"), ())

    def test_they_are_enough_and_all_needed(self):
        for tree in [TREE, *all_shapes(list("badc"))[:3], ("b", "a"), "a"]:
            plan = ForkPlan(tree)
            for state in all_states(plan.sizes):
                needed = needed_cells(plan, state)
                known = [mark if index in needed else None for index, mark in enumerate(state)]
                self.assertEqual(sure_told(plan, known), plain_told(tree, state))
                for index in needed:
                    self.assertIsNone(sure_told(plan, [*known[:index], None, *known[index + 1:]]))
                    self.assertIsNone(sure_told(plan, (*state[:index], None, *state[index + 1:])))

    def test_77_flags(self):
        plan = ForkPlan(COMB)
        self.gives_new([index for index in range(77) if plan.cells[index][1] == 0], needed_cells, plan, (0,) * 77)
        last = plan.updated(plan.start(), "l")
        self.gives_new(list(range(77)), needed_cells, plan, last)

    def test_wrong_states(self):
        for state in [[0] * 5, (0,) * 4, (0, 0, 0, 0, 2), (0, 0, 0, 0, None), (True, 0, 0, 0, 0), None, ()]:
            self.fails(InvalidState, {}, needed_cells, ForkPlan(TREE), state)
