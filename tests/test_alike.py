"""Point 29: plans alike."""

from forkflags.alike import parting_state
from forkflags.errors import UnlikePlans
from forkflags.forkplan import ForkPlan
from forkflags.shaping import mirror
from forkflags.trees import forks_of
from tests.helpers import LETTERS, Case, comb_tree, every_tree, plain_ways
from tests.test_forkplan import TREE, plain_told

COMB = comb_tree(LETTERS[:12])


class AlikeTest(Case):

    def parts(self, first, second):
        """Ask for a state in which these trees tell different writers."""
        state = parting_state(ForkPlan(first), ForkPlan(second))
        self.assertIsNone(ForkPlan(first).check_state(state))
        self.assertNotEqual(plain_told(first, state), plain_told(second, state))

    def depths(self, tree):
        return {name: len(way) for name, way in plain_ways(tree).items()}

    def test_all_pairs(self):
        for names in ["ab", "abc", "dcba"]:
            trees = every_tree(list(names))
            for at, first in enumerate(trees):
                for second in trees[at % 7::7] + [first]:
                    if first == second:
                        self.gives(None, parting_state, ForkPlan(first), ForkPlan(second))
                    elif self.depths(first) == self.depths(second):
                        self.parts(first, second)
                    else:
                        self.fails(UnlikePlans, {}, parting_state, ForkPlan(first), ForkPlan(second))

    def test_same_plan(self):
        plan = ForkPlan(TREE)
        self.gives(None, parting_state, plan, plan)

    def test_two_writers(self):
        self.parts(("a", "b"), ("b", "a"))
        state = parting_state(ForkPlan(("a", "b")), ForkPlan(("b", "a")))
        self.gives(state, parting_state, ForkPlan(("a", "b")), ForkPlan(("b", "a")))

    def test_one_writer(self):
        self.gives(None, parting_state, ForkPlan("a"), ForkPlan("a"))
        self.gives((), parting_state, ForkPlan("a"), ForkPlan("b"))
        self.gives((), parting_state, ForkPlan("b"), ForkPlan("a"))
        for tree in [("a", "b"), ("b", "a"), TREE]:
            self.fails(UnlikePlans, {}, parting_state, ForkPlan("a"), ForkPlan(tree))
            self.fails(UnlikePlans, {}, parting_state, ForkPlan(tree), ForkPlan("a"))

    def test_other_names_and_other_depths(self):
        for other in [(("a", "b"), "d"), ("a", ("b", "c")), (("a", "c"), "b"), ("a", "b"), ((("a", "d"), "b"), "c")]:
            self.fails(UnlikePlans, {}, parting_state, ForkPlan(TREE), ForkPlan(other))
            self.fails(UnlikePlans, {}, parting_state, ForkPlan(other), ForkPlan(TREE))

    def test_twelve_writers(self):
        self.gives(None, parting_state, ForkPlan(COMB), ForkPlan(comb_tree(LETTERS[:12])))
        for fork in forks_of(COMB):
            self.parts(COMB, mirror(COMB, fork))
            self.parts(mirror(COMB, fork), COMB)
        self.parts(COMB, comb_tree([*LETTERS[:10], "l", "k"]))
