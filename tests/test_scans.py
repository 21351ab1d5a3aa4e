"""Points 67 to 70: watchers that look at one flag after another."""

from forkflags.forkplan import ForkPlan
from forkflags.history import History, moments_of
from forkflags.partial import needed_cells
from forkflags.scans import board_answers, excuse, scan, scan_answers
from tests.helpers import LETTERS, Case, all_states, comb_tree, every_tree, plain_ways
from tests.test_forkplan import SMALL_TREES, TREE, plain_boards, plain_flags, plain_told
from tests.test_history import drawn, drawn_events

COMB = comb_tree(LETTERS[:12])
EXAMPLE = [("c", None), ("b", None)]


def example():
    plan = ForkPlan(TREE)
    return plan, moments_of(plan, plan.start(), EXAMPLE)


def all_scans(tree, moments, first):
    """List (answer, looks) for all choices of the moments of the looks, found without the program."""
    flags = plain_flags(tree)
    leaves = {way: name for name, way in plain_ways(tree).items()}
    found = []

    def go_on(fork, waiting, board, now, looks):
        if waiting:
            for later in range(now, len(moments)):
                mark = moments[later][0][waiting[0]]
                go_on(fork, waiting[1:], (board + mark) % 2, later, [*looks, (waiting[0], later)])
        else:
            come_to(fork + str(board), now, looks)

    def come_to(way, now, looks):
        if way in leaves:
            found.append((leaves[way], looks))
        else:
            go_on(way, [index for index, fork in enumerate(flags) if fork == way], 0, now, looks)
    come_to("", first, [])
    return found


def all_board_readers(tree, moments, first):
    """Return the answers of all readers that see a whole fork at one moment, found without the program."""
    leaves = {way: name for name, way in plain_ways(tree).items()}
    boards = [plain_boards(tree, state) for state, _ in moments]
    waiting, found = [("", first)], set()
    while waiting:
        way, now = waiting.pop()
        if way in leaves:
            found.add(leaves[way])
        else:
            waiting.extend([(way + str(boards[later][way]), later) for later in range(now, len(moments))])
    return found


def gaps_of(looks, first):
    """Return the gaps that lead to these looks."""
    moments = [first, *[moment for _, moment in looks]]
    return [after - before for before, after in zip(moments, moments[1:])]


def plain_excuse(tree, moments, first, last, answer):
    """Return the excuse, word by word as point 69 has it."""
    told = [m for m in range(first, last + 1) if plain_told(tree, moments[m][0]) == answer]
    turned = [m for m in range(first + 1, last + 1) if moments[m][1] == answer]
    if told:
        return ("told", told[0])
    return ("turned", turned[0]) if turned else None


def short_runs(most):
    """List plans with drawn runs of at most this many moments."""
    runs = []
    for tree in [tree for tree in SMALL_TREES if len(plain_flags(tree)) < 10]:
        plan = ForkPlan(tree)
        states = all_states(plan.sizes)
        for number in range(10):
            state = states[number * 37 % len(states)]
            _, moments, _ = drawn_events(plan, state, 6, drawn(number))
            runs.append((plan, moments[:most]))
    return runs


class ExamplesTest(Case):

    def test_first_example(self):
        plan, moments = example()
        self.gives(("c", [(0, 0), (2, 0), (4, 1)]), scan, plan, moments, gaps=[0, 0, 1])
        self.gives_new(["a", "b", "c"], scan_answers, plan, moments)
        self.gives(("turned", 2), excuse, plan, moments, 0, 2, "b")

    def test_second_example(self):
        plan, moments = example()
        looks = [(0, 0), (2, 0), (4, 0), (1, 2), (3, 3)]
        self.gives(("b", looks), scan, plan, moments, gaps=[0, 0, 0, 2, 1])
        self.gives(("told", 3), excuse, plan, moments, 0, 3, "b")


class ScanTest(Case):

    def test_all_choices_of_moments(self):
        for plan, moments in short_runs(4):
            for first in range(len(moments)):
                for answer, looks in all_scans(plan.tree, moments, first)[::3]:
                    gaps = gaps_of(looks, first)
                    self.assertEqual(scan(plan, moments, first=first, gaps=gaps), (answer, looks))
                    self.assertEqual(scan(plan, moments, first=first, gaps=tuple(gaps)), (answer, looks))

    def test_gaps_that_are_missing(self):
        plan, moments = example()
        self.gives(("a", [(0, 0), (2, 0), (4, 0), (1, 0), (3, 0)]), scan, plan, moments)
        self.gives(("a", [(0, 0), (2, 0), (4, 0), (1, 0), (3, 0)]), scan, plan, moments, gaps=())
        self.gives(("a", [(0, 0), (2, 0), (4, 0), (1, 0), (3, 0)]), scan, plan, moments, gaps=[0, 0])
        self.gives(("c", [(0, 1), (2, 1), (4, 1)]), scan, plan, moments, gaps=(1,))
        self.gives(("b", [(0, 0), (2, 0), (4, 0), (1, 2), (3, 2)]), scan, plan, moments, gaps=[0, 0, 0, 2])

    def test_gaps_that_are_more_than_the_looks(self):
        plan, moments = example()
        self.gives(("c", [(0, 0), (2, 0), (4, 1)]), scan, plan, moments, gaps=[0, 0, 1, 7, 7, 7])
        self.gives(("b", [(0, 3), (2, 3), (4, 3), (1, 3), (3, 3)]), scan, plan, moments, gaps=[3] * 50)

    def test_gaps_beyond_the_last_moment(self):
        plan, moments = example()
        self.assertEqual(len(moments), 4)
        self.gives(("b", [(0, 3), (2, 3), (4, 3), (1, 3), (3, 3)]), scan, plan, moments, gaps=[10 ** 30])
        self.gives(("a", [(0, 0), (1, 0)]), scan, ForkPlan(("a", "b")), [((0, 0), None)], gaps=[0, 99])
        self.gives(("c", [(0, 1), (2, 1), (4, 2)]), scan, plan, moments[:3], gaps=[0, 0, 5], first=1)

    def test_first_moment(self):
        plan, moments = example()
        self.gives(("c", [(0, 1), (2, 1), (4, 1)]), scan, plan, moments, first=1)
        self.gives(("c", [(0, 2), (2, 2), (4, 2)]), scan, plan, moments, first=2)
        self.gives(("b", [(0, 2), (2, 3), (4, 3), (1, 3), (3, 3)]), scan, plan, moments, first=2, gaps=[0, 1])
        self.gives(("b", [(0, 3), (2, 3), (4, 3), (1, 3), (3, 3)]), scan, plan, moments, first=3, gaps=[4])

    def test_one_writer(self):
        plan = ForkPlan("zz")
        moments = moments_of(plan, (), [("zz", None)])
        self.gives(("zz", []), scan, plan, moments)
        self.gives(("zz", []), scan, plan, moments, first=0, gaps=[1, 2])
        self.gives_new(["zz"], scan_answers, plan, moments)
        self.gives_new(["zz"], board_answers, plan, moments)
        self.gives(("told", 0), excuse, plan, moments, 0, 0, "zz")

    def test_keywords_only(self):
        plan, moments = example()
        with self.assertRaises(TypeError):
            scan(plan, moments, 0)
        with self.assertRaises(TypeError):
            scan(plan, moments, 0, [])

    def test_looks_are_new(self):
        plan, moments = example()
        _, looks = scan(plan, moments)
        looks.clear()
        self.assertEqual(len(scan(plan, moments)[1]), 5)

    def test_moments_of_a_history(self):
        plan = ForkPlan(TREE)
        history = History(plan)
        history.write("c")
        history.write("b")
        moments = list(history.each_moment())
        self.assertEqual(scan(plan, moments, gaps=[0, 0, 1]), ("c", [(0, 0), (2, 0), (4, 1)]))
        self.assertEqual(scan_answers(plan, moments), ["a", "b", "c"])


class AnswersTest(Case):

    def test_all_choices_of_moments(self):
        many = set()
        for plan, moments in short_runs(5):
            for first in range(len(moments)):
                wanted = sorted({answer for answer, _ in all_scans(plan.tree, moments, first)})
                self.assertEqual(sorted(all_board_readers(plan.tree, moments, first)), wanted)
                self.gives_new(wanted, scan_answers, plan, moments, first)
                self.gives_new(wanted, board_answers, plan, moments, first)
                many.add(len(wanted))
        self.assertTrue(many.issuperset({1, 2, 3, 4}), many)

    def test_the_first_moment_is_0(self):
        plan, moments = example()
        for function in [scan_answers, board_answers]:
            self.gives_new(["a", "b", "c"], function, plan, moments)
            self.gives_new(["b", "c"], function, plan, moments, 1)
            self.gives_new(["b", "c"], lambda *args, asked=function: asked(*args, first=2), plan, moments)
            self.gives_new(["b"], function, plan, moments, 3)

    def test_equal_lists_of_longer_runs(self):
        for tree in every_tree(list("abcd"))[::7]:
            plan = ForkPlan(tree)
            for number in range(3):
                _, moments, _ = drawn_events(plan, plan.start(), 9, drawn(number))
                for first in range(0, len(moments), 3):
                    found = scan_answers(plan, moments, first)
                    self.assertEqual(board_answers(plan, moments, first), found)
                    self.assertEqual(set(found), all_board_readers(tree, moments, first))

    def test_longest_run(self):
        plan = ForkPlan(COMB)
        history = History(plan)
        for step in range(200):
            history.write(LETTERS[step * 5 % 12])
        moments = list(history.each_moment())
        self.assertGreater(len(moments), 300)
        for first in [0, len(moments) // 2, len(moments) - 2, len(moments) - 1]:
            found = scan_answers(plan, moments, first)
            self.assertEqual(board_answers(plan, moments, first), found)
            self.assertIn(plan.told(moments[first][0]), found)
            self.assertIn(history.reading, found)
        self.assertEqual(scan_answers(plan, moments), LETTERS[:12])
        self.assertEqual(scan_answers(plan, moments, len(moments) - 1), [history.reading])


class ExcuseTest(Case):

    def test_each_scan_has_an_excuse(self):
        kinds = set()
        for plan, moments in short_runs(5):
            for first in range(len(moments)):
                for answer, looks in all_scans(plan.tree, moments, first):
                    last = looks[-1][1] if looks else first
                    found = excuse(plan, moments, first, last, answer)
                    self.assertIsNotNone(found)
                    self.assertEqual(found, plain_excuse(plan.tree, moments, first, last, answer))
                    kinds.add(found[0])
        self.assertEqual(kinds, {"told", "turned"})

    def test_all_answers(self):
        kinds = set()
        for plan, moments in short_runs(7):
            for first in range(len(moments)):
                for last in range(first, len(moments)):
                    for answer in plan.names:
                        wanted = plain_excuse(plan.tree, moments, first, last, answer)
                        self.gives(wanted, excuse, plan, moments, first, last, answer)
                        kinds.add(wanted and wanted[0])
        self.assertEqual(kinds, {"told", "turned", None})

    def test_values(self):
        plan, moments = example()
        self.gives(("told", 0), excuse, plan, moments, 0, 3, "a")
        self.gives(("told", 1), excuse, plan, moments, 0, 3, "c")
        self.gives(("told", 1), excuse, plan, moments, 1, 1, "c")
        self.gives(("turned", 2), excuse, plan, moments, 1, 2, "b")
        # The turn to the first moment is none of these moments.
        self.gives(None, excuse, plan, moments, 2, 2, "b")
        self.gives(None, excuse, plan, moments, 3, 3, "c")
        self.gives(None, excuse, plan, moments, 0, 1, "b")
        self.gives(None, excuse, plan, moments, 0, 3, "zz")

    def test_told_comes_before_turned(self):
        plan = ForkPlan(TREE)
        moments = moments_of(plan, (0, 0, 0, 0, 1), [("b", 1), ("a", None), ("b", None)])
        self.assertEqual([writer for _, writer in moments], [None, "b", "a", "a", "b"])
        self.gives(("told", 4), excuse, plan, moments, 0, 4, "b")
        self.gives(("turned", 1), excuse, plan, moments, 0, 3, "b")


class OneMomentTest(Case):

    def test_needed_cells_once_each(self):
        for tree in SMALL_TREES:
            plan = ForkPlan(tree)
            for state in all_states(plan.sizes):
                answer, looks = scan(plan, [(state, None)])
                self.assertEqual(answer, plain_told(tree, state))
                self.assertEqual(sorted([index for index, _ in looks]), needed_cells(plan, state))
                flags = plain_flags(tree)
                self.assertEqual([index for index, _ in looks], sorted(
                    [index for index, _ in looks], key=lambda index: (len(flags[index]), index)))

    def test_at_every_moment(self):
        for plan, moments in short_runs(9):
            for now, (state, _) in enumerate(moments):
                for asked in [{"first": now}, {"gaps": [now]}, {"first": now, "gaps": [0, 0]}]:
                    answer, looks = scan(plan, moments, **asked)
                    if looks or "first" in asked:
                        self.assertEqual(answer, plain_told(plan.tree, state))
                    self.assertEqual(sorted(looks), [(index, now) for index in needed_cells(plan, state)])

    def test_great_plan(self):
        plan = ForkPlan(COMB)
        moments = moments_of(plan, plan.start(), [("l", None)])
        answer, looks = scan(plan, moments, first=11)
        self.assertEqual([answer, looks], ["l", [
            (index, 11) for level in range(11) for index in range(77) if plan.fork_of(index) == "1" * level
        ]])
        self.assertEqual(scan(plan, moments)[0], "a")
