"""Points 52 and 53: updates at the same time."""

from itertools import combinations

from forkflags.errors import DuplicateWriter, InvalidState, UnknownWriter
from forkflags.forkplan import ForkPlan
from forkflags.overlaps import loses, overlapped, safe_pairs
from forkflags.ratchets import RatchetPlan
from forkflags.ruled import RuledTable
from forkflags.townplan import TownPlan
from tests.helpers import LETTERS, Case, all_states, comb_tree, plain_ways
from tests.test_forkplan import SMALL_TREES, TREE, plain_told
from tests.test_history import NO_WRITERS
from tests.test_plans import NO_STATES
from tests.test_ratchets import FEW, RINGS, some_rings
from tests.test_townplan import SIZES, SMALL
from tests.test_towns import TOWN

COMB = comb_tree(LETTERS[:12])


def mixed(plan, state, first, second):
    """Return the states that all orders of the turns of the two updates leave."""
    rows = plan.turns(state, first), plan.turns(state, second)
    many = len(rows[0]) + len(rows[1])
    left = set()
    for places in combinations(range(many), len(rows[0])):
        waiting = [list(rows[0]), list(rows[1])]
        marks = list(state)
        for place in range(many):
            index, mark = waiting[0 if place in places else 1].pop(0)
            marks[index] = mark
        left.add(tuple(marks))
    return left


def parting(tree, first, second):
    """Return the fork where the ways of the two writers part."""
    ways = plain_ways(tree)
    fork = ""
    while ways[first].startswith(fork) and ways[second].startswith(fork):
        last, fork = fork, ways[first][:len(fork) + 1]
    return last


class ExamplesTest(Case):

    def test_examples(self):
        plan = ForkPlan(TREE)
        self.gives(True, loses, plan, (0, 0, 0, 0, 1), "a", "b")
        self.gives_new([("a", "c"), ("b", "c")], safe_pairs, plan)
        self.gives((0, 0, 0, 1, 1), overlapped, plan, (0, 0, 0, 0, 0), "b", "c")


class OverlappedTest(Case):

    def test_any_order_of_turns(self):
        plans = [ForkPlan(tree) for tree in SMALL_TREES]
        plans += [TownPlan(town, sizes) for town, sizes in SMALL]
        plans += [RatchetPlan(town, sizes, some_rings(sizes, 1)) for town, sizes in FEW]
        for plan in plans:
            states = all_states(plan.sizes)
            for state in states[::max(1, len(states) // 70)]:
                for first, second in combinations(plan.names, 2):
                    left = overlapped(plan, state, first, second)
                    self.assertEqual({left}, mixed(plan, state, first, second))
                    self.assertEqual(overlapped(plan, state, second, first), left)

    def test_values(self):
        self.gives((1, 0, 1, 1, 1), overlapped, ForkPlan(TREE), (0, 0, 0, 0, 1), "a", "b")
        town = TownPlan(TOWN, SIZES)
        turns = town.turns((0, 0, 0), "b") + town.turns((0, 0, 0), "c")
        self.assertEqual(len(turns), 2)
        self.gives((0, turns[0][1], turns[1][1]), overlapped, town, (0, 0, 0), "b", "c")
        ratchet = RatchetPlan(TOWN, SIZES, RINGS)
        self.gives(ratchet.turned((0, 6, 1), ratchet.turns((0, 6, 1), "b") + ratchet.turns((0, 6, 1), "a")),
                   overlapped, ratchet, (0, 6, 1), "b", "a")

    def test_told_writer_has_no_turn(self):
        for state in all_states([2] * 5):
            plan = ForkPlan(TREE)
            told = plan.told(state)
            for other in [name for name in "abc" if name != told]:
                self.gives(plan.updated(state, other), overlapped, plan, state, told, other)
                self.gives(plan.updated(state, other), overlapped, plan, state, other, told)

    def test_ruled_tables(self):
        rules = {(0, "a"): [(0, 1)], (0, "b"): [(1, 2), (1, 1)], (0, "c"): [], (4, "b"): [(1, 0)]}
        table = RuledTable({"a": [2], "b": [3], "c": []}, list("xbxxax"), rules)
        self.gives((1, 1), overlapped, table, (0, 0), "a", "b")
        self.gives((1, 1), overlapped, table, (0, 0), "b", "a")
        self.gives((1, 0), overlapped, table, (0, 0), "c", "a")
        self.gives((1, 0), overlapped, table, (1, 1), "b", "a")
        self.gives((0, 1), overlapped, table, (0, 1), "b", "a")

    def test_errors_in_order(self):
        plans = [ForkPlan(TREE), TownPlan(TOWN, SIZES), RatchetPlan(TOWN, SIZES, RINGS)]
        plans.append(RuledTable({"a": [2], "b": [2], "c": [2]}, ["a"] * 8, {}))
        for plan in plans:
            for state in [*NO_STATES, [0] * len(plan.sizes), (*plan.start(), 0), (True, *plan.start()[1:])]:
                self.fails(InvalidState, {}, overlapped, plan, state, "zz", "zz")
                self.fails(InvalidState, {}, overlapped, plan, state, "a", "a")
            for writer in [value for value in NO_WRITERS if value != "d"]:
                self.fails(UnknownWriter, {"writer": writer}, overlapped, plan, plan.start(), writer, "zz")
                self.fails(UnknownWriter, {"writer": writer}, overlapped, plan, plan.start(), writer, writer)
                self.fails(UnknownWriter, {"writer": writer}, overlapped, plan, plan.start(), "a", writer)
            for writer in "abc":
                self.fails(DuplicateWriter, {"writer": writer}, overlapped, plan, plan.start(), writer, writer)


class LosesTest(Case):

    def test_who_is_told_afterwards(self):
        for tree in SMALL_TREES:
            plan = ForkPlan(tree)
            ways = plain_ways(tree)
            for state in all_states(plan.sizes):
                told = plain_told(tree, state)
                for first, second in combinations(plan.names, 2):
                    fork = parting(tree, first, second)
                    after = plain_told(tree, overlapped(plan, state, first, second))
                    lost = not ways[told].startswith(fork)
                    if lost:
                        self.assertEqual(after, told)
                    else:
                        side = ways[told][:len(fork) + 1]
                        winner = [name for name in [first, second] if not ways[name].startswith(side)]
                        self.assertEqual([after], winner)
                    self.assertIs(loses(plan, state, first, second), lost)
                    self.assertIs(loses(plan, state, second, first), lost)

    def test_great_plan(self):
        plan = ForkPlan(COMB)
        self.gives(True, loses, plan, plan.start(), "k", "l")
        self.gives(False, loses, plan, plan.start(), "a", "l")
        self.gives(False, loses, plan, plan.updated(plan.start(), "k"), "k", "l")

    def test_errors(self):
        plan = ForkPlan(TREE)
        for state in NO_STATES:
            self.fails(InvalidState, {}, loses, plan, state, "zz", "zz")
        for writer in NO_WRITERS:
            self.fails(UnknownWriter, {"writer": writer}, loses, plan, plan.start(), writer, "zz")
            self.fails(UnknownWriter, {"writer": writer}, loses, plan, plan.start(), "c", writer)
        self.fails(DuplicateWriter, {"writer": "b"}, loses, plan, plan.start(), "b", "b")
        self.fails(DuplicateWriter, {"writer": "a"}, loses, ForkPlan("a"), (), "a", "a")


class SafePairsTest(Case):

    def test_pairs_that_never_lose(self):
        for tree in SMALL_TREES:
            plan = ForkPlan(tree)
            wanted = [
                (first, second) for first, second in combinations(plan.names, 2)
                if not any(loses(plan, state, first, second) for state in all_states(plan.sizes))
            ]
            self.gives_new(wanted, safe_pairs, plan)

    def test_pairs_part_at_the_top(self):
        self.gives_new([("a", name) for name in LETTERS[1:12]], safe_pairs, ForkPlan(COMB))
        self.gives_new([("a", "c"), ("a", "d"), ("b", "c"), ("b", "d")], safe_pairs, ForkPlan((("d", "c"), ("b", "a"))))
        self.gives_new([], safe_pairs, ForkPlan("a"))
        self.gives_new([("a", "b")], safe_pairs, ForkPlan(("b", "a")))
