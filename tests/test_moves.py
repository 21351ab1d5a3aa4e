"""Points 81 and 82: writers come and go."""

from forkflags.errors import DuplicateWriter, InvalidName, InvalidState, StillTold, TooMany, UnknownWriter
from forkflags.forkplan import ForkPlan
from forkflags.moves import admitted, dismissed, joined_plans, renamed
from forkflags.shaping import graft, mirror, prune
from tests.helpers import LETTERS, NO_NAMES, Case, all_states, comb_tree, plain_ways
from tests.test_forkplan import SMALL_TREES, TREE, plain_told
from tests.test_history import NO_WRITERS, drawn
from tests.test_plans import NO_STATES

COMB = comb_tree(LETTERS[:12])
# Trees with the names of the first letters, and with others.
TREES = [*SMALL_TREES, ("b", (("d", "a"), "c")), ((("c", "b"), "a"), "d")]
OTHERS = ["z", ("y", "x"), ("m", ("z", "k")), (("zz", "aa"), "bb")]


def states_of(plan, most):
    """List about this many states of a plan, all of them if they are few."""
    states = all_states(plan.sizes)
    return states[::max(1, len(states) // most)]


def marks_of(plan, state):
    return dict(zip(plan.cells, state))


def beneath(tree, fork):
    """Return the writers beneath a fork, found without the program."""
    return frozenset([name for name, way in plain_ways(tree).items() if way.startswith(fork)])


class MovesCase(Case):

    def moved(self, tree, marks, function, *args):
        """Ask for a new plan with this tree, and for a state with these marks."""
        before = str(args[0])
        for _ in range(2):
            found = function(*args)
            self.assertIs(found.__class__, tuple)
            plan, state = found
            self.assertIs(plan.__class__, ForkPlan)
            self.assertIsNot(plan, args[0])
            self.assertEqual(plan.tree, tree)
            self.assertEqual(marks_of(plan, state), marks)
            self.assertIsNone(plan.check_state(state))
        self.assertEqual([str(args[0]), args[0].cells], [before, ForkPlan(args[0].tree).cells])
        return found


class ExamplesTest(MovesCase):

    def test_example(self):
        plan = ForkPlan(TREE)
        smaller, state = dismissed(plan, (0, 0, 1, 1, 0), "b")
        self.assertEqual(
            [plan.told((0, 0, 1, 1, 0)), smaller.tree, state, smaller.told(state)], ["c", ("c", "a"), (0, 0), "c"])


class AdmittedTest(MovesCase):

    def test_told_writer_is_kept(self):
        for tree in TREES:
            plan = ForkPlan(tree)
            for beside in plan.names:
                for state in states_of(plan, 60):
                    for writer in ["e", "aa", "zz"]:
                        bigger = graft(tree, writer, beside)
                        marks = {cell: 0 for cell in ForkPlan(bigger).cells}
                        marks.update(marks_of(plan, state))
                        _, after = self.moved(bigger, marks, admitted, plan, state, writer, beside)
                        self.assertEqual(plain_told(bigger, after), plain_told(tree, state))

    def test_all_states(self):
        for tree in [TREE, ("b", "a"), "a"]:
            plan = ForkPlan(tree)
            for state in all_states(plan.sizes):
                for beside in plan.names:
                    bigger, after = admitted(plan, state, "d", beside)
                    self.assertEqual(plain_told(bigger.tree, after), plain_told(tree, state))

    def test_written_out(self):
        plan, state = admitted(ForkPlan(TREE), (1, 0, 1, 1, 1), "bb", "b")
        self.assertEqual([plan.tree, state], [(("a", ("b", "bb")), "c"), (1, 0, 1, 1, 0, 0, 0, 0, 1)])
        plan, state = admitted(ForkPlan("b"), (), "a", "b")
        self.assertEqual([plan.tree, state, plan.told(state)], [("b", "a"), (0, 0), "b"])

    def test_errors_in_order(self):
        plan = ForkPlan(TREE)
        for state in NO_STATES:
            for writer, beside in [("d", "a"), ("A", "zz"), ("a", "zz"), (None, None)]:
                self.fails(InvalidState, {}, admitted, plan, state, writer, beside)
        for name in NO_NAMES:
            self.fails(InvalidName, {"name": name}, admitted, plan, plan.start(), name, "zz")
        for name in "abc":
            self.fails(DuplicateWriter, {"writer": name}, admitted, plan, plan.start(), name, "zz")
            self.fails(DuplicateWriter, {"writer": name}, admitted, plan, plan.start(), name, name)
        for writer in NO_WRITERS:
            self.fails(UnknownWriter, {"writer": writer}, admitted, plan, plan.start(), "zz", writer)
        full = ForkPlan(COMB)
        self.fails(UnknownWriter, {"writer": "z"}, admitted, full, full.start(), "zz", "z")
        self.fails(TooMany, {"most": 12}, admitted, full, full.start(), "zz", "l")
        eleven = ForkPlan(prune(COMB, "d"))
        self.assertEqual(len(admitted(eleven, eleven.start(), "d", "l")[0].names), 12)


class DismissedTest(MovesCase):

    def wanted(self, plan, state, writer):
        """Return the tree and the marks that are left, with forks known by the writers beneath them."""
        way = plain_ways(plan.tree)[writer]
        marks = marks_of(plan, state)
        tree = plan.tree
        # The deepest fork first, so that those above it keep their names.
        for level in range(len(way) - 2, -1, -1):
            if marks[(writer, level)] == 1:
                tree = mirror(tree, way[:level])
        tree = prune(tree, writer)
        old = {}
        for (name, level), mark in marks.items():
            fork = plain_ways(plan.tree)[name][:level]
            if name != writer and fork != way[:-1]:
                old[(name, beneath(plan.tree, fork) - {writer})] = mark
        ways = plain_ways(tree)
        cells = [(name, level) for name in ways for level in range(len(ways[name]))]
        self.assertEqual(len(cells), len(old))
        return tree, {(name, level): old[(name, beneath(tree, ways[name][:level]))] for name, level in cells}

    def test_told_writer_is_kept(self):
        for tree in TREES:
            plan = ForkPlan(tree)
            for state in states_of(plan, 130):
                told = plain_told(tree, state)
                for writer in plan.names:
                    if writer == told:
                        self.fails(StillTold, {"writer": writer}, dismissed, plan, state, writer)
                        continue
                    smaller, marks = self.wanted(plan, state, writer)
                    _, after = self.moved(smaller, marks, dismissed, plan, state, writer)
                    self.assertEqual(plain_told(smaller, after), told)

    def test_all_states(self):
        for tree in [TREE, ("b", "a"), ("b", ("a", "c")), (("b", "a"), ("d", "c"))]:
            plan = ForkPlan(tree)
            for state in all_states(plan.sizes):
                for writer in plan.names:
                    if writer != plain_told(tree, state):
                        smaller, after = dismissed(plan, state, writer)
                        self.assertEqual(plain_told(smaller.tree, after), plain_told(tree, state))

    def test_beside_a_leaf_and_beside_a_fork(self):
        plan = ForkPlan((("a", "b"), ("c", "d")))
        for state, writer, wanted in [
            ((0,) * 8, "b", ("a", ("c", "d"))), ((0,) * 8, "d", (("a", "b"), "c")),
            ((0, 0, 1, 0, 0, 0, 1, 0), "b", (("c", "d"), "a")), ((0, 1, 1, 1, 0, 0, 1, 0), "b", (("c", "d"), "a")),
        ]:
            smaller, after = dismissed(plan, state, writer)
            self.assertEqual([smaller.tree, smaller.told(after)], [wanted, plan.told(state)])
        plan = ForkPlan(("a", ("b", "c")))
        # The fork at the top is gone, so the flags of the other fork get the level 0.
        smaller, after = dismissed(plan, (0, 1, 1, 0, 0), "a")
        self.assertEqual([smaller.tree, smaller.cells, after], [("b", "c"), [("b", 0), ("c", 0)], (1, 0)])

    def test_exchanges_above_one_another(self):
        plan = ForkPlan(((("a", "b"), "c"), "d"))
        # The flags of b are 1 at both forks that are left, and the fork of a and b is gone.
        smaller, after = dismissed(plan, (0, 0, 0, 1, 1, 0, 0, 0, 0), "b")
        self.assertEqual([smaller.tree, after], [("d", ("c", "a")), (0, 0, 0, 0, 0)])
        self.assertEqual([plan.told((0, 0, 0, 1, 1, 0, 0, 0, 0)), smaller.told(after)], ["d", "d"])

    def test_errors_in_order(self):
        plan = ForkPlan(TREE)
        for state in NO_STATES:
            for writer in ["a", "b", "zz", None]:
                self.fails(InvalidState, {}, dismissed, plan, state, writer)
        for writer in NO_WRITERS:
            self.fails(UnknownWriter, {"writer": writer}, dismissed, plan, plan.start(), writer)
        self.fails(StillTold, {"writer": "a"}, dismissed, plan, plan.start(), "a")
        self.fails(StillTold, {"writer": "c"}, dismissed, plan, (0, 0, 0, 0, 1), "c")
        self.fails(StillTold, {"writer": "zz"}, dismissed, ForkPlan("zz"), (), "zz")

    def test_great_plan(self):
        plan, state = ForkPlan(COMB), (1,) * 77
        told = plan.told(state)
        draw = drawn(1)
        while len(plan.names) > 1:
            others = [name for name in plan.names if name != told]
            plan, state = dismissed(plan, state, others[draw(len(others))])
            self.assertEqual(plan.told(state), told)
        self.assertEqual([plan.tree, state], [told, ()])


class JoinedTest(MovesCase):

    def test_told_writer_is_kept(self):
        for first in [ForkPlan(tree) for tree in TREES]:
            for second in [ForkPlan(tree) for tree in OTHERS]:
                for state in states_of(first, 16):
                    for other in states_of(second, 16):
                        for plans in [(first, state, second, other), (second, other, first, state)]:
                            kept = {**marks_of(first, state), **marks_of(second, other)}
                            marks = {(name, level + 1): mark for (name, level), mark in kept.items()}
                            marks.update({(name, 0): 0 for name in first.names + second.names})
                            tree = (plans[0].tree, plans[2].tree)
                            _, after = self.moved(tree, marks, joined_plans, *plans)
                            self.assertEqual(plain_told(tree, after), plans[0].told(plans[1]))

    def test_written_out(self):
        plan, state = joined_plans(ForkPlan(("c", "a")), (1, 1), ForkPlan("b"), ())
        self.assertEqual([plan.tree, state, plan.told(state)], [(("c", "a"), "b"), (0, 1, 0, 0, 1), "c"])

    def test_twelve_and_thirteen(self):
        first, second = ForkPlan(comb_tree(LETTERS[:6])), ForkPlan(comb_tree(LETTERS[6:12]))
        plan, state = joined_plans(first, first.start(), second, second.start())
        self.assertEqual([len(plan.names), plan.told(state)], [12, "a"])
        for more in [ForkPlan(comb_tree(LETTERS[6:13])), ForkPlan(comb_tree(LETTERS[6:18]))]:
            self.fails(TooMany, {"most": 12}, joined_plans, first, first.start(), more, more.start())
            self.fails(TooMany, {"most": 12}, joined_plans, more, more.start(), first, first.start())

    def test_errors_in_order(self):
        plan, great = ForkPlan(TREE), ForkPlan(COMB)
        for state in NO_STATES:
            for other in [plan.start(), None]:
                self.fails(InvalidState, {}, joined_plans, plan, state, plan, other)
                self.fails(InvalidState, {}, joined_plans, plan, other, plan, state)
            self.fails(InvalidState, {}, joined_plans, great, great.start(), plan, state)
        self.fails(DuplicateWriter, {"writer": "a"}, joined_plans, plan, plan.start(), plan, plan.start())
        other = ForkPlan(("z", ("c", "b")))
        self.fails(DuplicateWriter, {"writer": "b"}, joined_plans, plan, plan.start(), other, other.start())
        self.fails(DuplicateWriter, {"writer": "b"}, joined_plans, other, other.start(), great, great.start())
        # Too many together, but a name that is in both comes first.
        self.fails(DuplicateWriter, {"writer": "a"}, joined_plans, great, great.start(), plan, plan.start())


class RenamedTest(MovesCase):

    def test_told_writer_is_kept(self):
        for tree in TREES:
            plan = ForkPlan(tree)
            for state in states_of(plan, 60):
                told = plain_told(tree, state)
                for old in plan.names:
                    for new in ["e", "aa", "zz", old]:
                        ways = {way: new if name == old else name for name, way in plain_ways(tree).items()}
                        marks = {
                            (new if name == old else name, level): mark
                            for (name, level), mark in marks_of(plan, state).items()
                        }
                        found, after = renamed(plan, state, old, new)
                        self.assertEqual({way: name for name, way in plain_ways(found.tree).items()}, ways)
                        self.moved(found.tree, marks, renamed, plan, state, old, new)
                        self.assertEqual(found.told(after), new if told == old else told)

    def test_written_out(self):
        plan, state = renamed(ForkPlan(TREE), (1, 0, 0, 1, 0), "a", "z")
        self.assertEqual([plan.tree, plan.names, state], [(("z", "b"), "c"), ["b", "c", "z"], (0, 1, 0, 1, 0)])
        plan, state = renamed(ForkPlan("a"), (), "a", "b")
        self.assertEqual([plan.tree, state], ["b", ()])

    def test_new_equal_to_old(self):
        plan, state = renamed(ForkPlan(TREE), (1, 0, 0, 1, 1), "b", "b")
        self.assertEqual([plan.tree, state], [TREE, (1, 0, 0, 1, 1)])

    def test_errors_in_order(self):
        plan = ForkPlan(TREE)
        for state in NO_STATES:
            for old, new in [("a", "z"), ("zz", "A"), ("a", "A"), ("a", "b"), (None, None)]:
                self.fails(InvalidState, {}, renamed, plan, state, old, new)
        for old in NO_WRITERS:
            for new in ["A", "a", "z", None]:
                self.fails(UnknownWriter, {"writer": old}, renamed, plan, plan.start(), old, new)
        for new in NO_NAMES:
            self.fails(InvalidName, {"name": new}, renamed, plan, plan.start(), "a", new)
        for old, new in [("a", "b"), ("b", "a"), ("c", "b")]:
            self.fails(DuplicateWriter, {"writer": new}, renamed, plan, plan.start(), old, new)
