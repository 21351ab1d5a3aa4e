"""Points 15 to 18: flag budgets."""

from fractions import Fraction
from itertools import product

from forkflags.budgets import (
    even_tree, fit_tree, fits, flag_sum, least_budget, least_raise, least_total, spare_flags,
)
from forkflags.errors import (
    DuplicateWriter, InvalidBudget, InvalidName, InvalidTree, SumTooGreat, TooMany, UnknownWriter,
)
from forkflags.shares import Share
from forkflags.trees import is_tree
from tests.helpers import LETTERS, NO_NAMES, NO_TREES, Case, all_shapes, comb_tree, plain_ways

# All budgets of up to three writers with up to four flags, and of four with up to three; b comes before a, as keys do.
SMALL = [
    dict(zip(names, row))
    for names, most in [("a", 4), ("ba", 4), ("bca", 4), ("dbac", 3)]
    for row in product(range(most + 1), repeat=len(names))
]
THIRTEEN = {name: 4 for name in LETTERS[:13]}
UNKNOWN = ["x", "", "ab", None, ["a"]]


def plain_sum(budgets):
    return sum([Fraction(1, 2 ** flags) for flags in budgets.values()])


def plain_fit(budgets):
    """Build the tree of point 16 from intervals, as point 91 sees it, without the program."""
    spans = []
    begin = Fraction(0)
    for name in sorted(budgets, key=lambda name: (budgets[name], name)):
        end = begin + Fraction(1, 2 ** budgets[name])
        spans.append((begin, end, name))
        begin = end
    return halved(spans, Fraction(0), Fraction(1))


def halved(spans, low, high):
    if len(spans) == 1:
        return spans[0][2]
    middle = (low + high) / 2
    left = [span for span in spans if span[1] <= middle]
    right = [span for span in spans if span[0] >= middle]
    assert len(left) + len(right) == len(spans)
    if left and right:
        return (halved(left, low, middle), halved(right, middle, high))
    return halved(left, low, middle) if left else halved(right, middle, high)


class SumTest(Case):

    def test_sum(self):
        for budgets in SMALL:
            total = plain_sum(budgets)
            self.gives(Share(total.numerator, total.denominator), flag_sum, budgets)
        self.gives(Share(1, 2 ** 30), flag_sum, {"a": 30})
        self.gives(Share(1), flag_sum, {"a": 0})
        self.gives(Share(2 ** 30 + 1, 2 ** 30), flag_sum, {"a": 30, "b": 0})
        self.gives(Share(12), flag_sum, {name: 0 for name in LETTERS[:12]})
        self.gives(Share(3, 2 ** 28), flag_sum, {name: 30 for name in LETTERS[:12]})


class FitsTest(Case):

    def test_small(self):
        for many in range(1, 4):
            names = LETTERS[:many]
            for tree in all_shapes(names):
                ways = plain_ways(tree)
                for row in product(range(4), repeat=many):
                    budgets = dict(zip(names[::-1], row))
                    wanted = all([len(ways[name]) <= budgets[name] for name in names])
                    self.gives(wanted, fits, tree, budgets)

    def test_other_writers(self):
        tree = (("a", "b"), "c")
        self.gives(True, fits, tree, {"c": 1, "b": 2, "a": 2})
        self.gives(True, fits, tree, {"c": 30, "b": 30, "a": 30})
        for budgets in [
            {"a": 2, "b": 2}, {"a": 2, "b": 2, "c": 2, "d": 2}, {"a": 2, "b": 2, "d": 2}, {"a": 30}, {"x": 30},
        ]:
            self.gives(False, fits, tree, budgets)

    def test_sum_plays_no_part(self):
        self.gives(False, fits, ("a", "b"), {"a": 0, "b": 0})
        self.gives(True, fits, "a", {"a": 0})
        self.gives(True, fits, comb_tree(LETTERS[:12]), {name: 11 for name in LETTERS[:12]})

    def test_invalid_tree_comes_first(self):
        for value in NO_TREES:
            self.fails(InvalidTree, {}, fits, value, {"A": -1})
            self.fails(InvalidTree, {}, fits, value, THIRTEEN)


class FitTreeTest(Case):

    def test_examples(self):
        self.gives((("a", "b"), "c"), fit_tree, {"a": 2, "b": 2, "c": 2})
        self.gives(("a", ("b", ("c", "d"))), fit_tree, {"d": 3, "b": 2, "a": 1, "c": 3})

    def test_written_out(self):
        for budgets, tree in [
            ({"a": 0}, "a"), ({"a": 30}, "a"), ({"a": 30, "b": 30}, ("a", "b")), ({"a": 3, "b": 1}, ("b", "a")),
            ({"b": 1, "a": 1}, ("a", "b")), ({"d": 2, "c": 2, "b": 2, "a": 2}, (("a", "b"), ("c", "d"))),
            ({"a": 3, "b": 3, "c": 3, "d": 3, "e": 3}, ((("a", "b"), ("c", "d")), "e")),
            ({"c": 2, "a": 3, "b": 1}, ("b", ("c", "a"))), ({"a": 5, "b": 3, "c": 3}, (("b", "c"), "a")),
            ({"a": 30, "b": 1, "c": 2}, ("b", ("c", "a"))),
        ]:
            self.gives(tree, fit_tree, budgets)

    def test_small(self):
        for budgets in SMALL:
            total = plain_sum(budgets)
            if total > 1:
                share = Share(total.numerator, total.denominator)
                self.fails(SumTooGreat, {"total": share}, fit_tree, budgets)
                continue
            self.gives(plain_fit(budgets), fit_tree, budgets)
            ways = plain_ways(fit_tree(budgets))
            self.assertEqual(sorted(ways), sorted(budgets))
            self.assertTrue(all([len(ways[name]) <= budgets[name] for name in ways]))

    def test_twelve_writers(self):
        exact = {name: level + 1 for level, name in enumerate(LETTERS[:11])}
        exact["l"] = 11
        self.gives(comb_tree(LETTERS[:12]), fit_tree, exact)
        for budgets in [
            {name: 4 for name in LETTERS[11::-1]}, {name: 30 for name in LETTERS[:12]},
            {name: 4 + at % 3 for at, name in enumerate(LETTERS[:12])},
            {name: 4 + at * at % 27 for at, name in enumerate(LETTERS[:12])},
        ]:
            self.gives(plain_fit(budgets), fit_tree, budgets)

    def test_sum_of_one_and_just_above(self):
        budgets = {name: level + 1 for level, name in enumerate(LETTERS[:11])}
        self.assertTrue(is_tree(fit_tree({**budgets, "l": 11})))
        self.fails(SumTooGreat, {"total": Share(2049, 2048)}, fit_tree, {**budgets, "k": 11, "l": 10, "j": 10})
        self.fails(SumTooGreat, {"total": Share(2 ** 30 + 1, 2 ** 30)}, fit_tree, {"a": 1, "b": 1, "c": 30})
        self.fails(SumTooGreat, {"total": Share(2)}, fit_tree, {"a": 0, "b": 0})


class SpareTest(Case):

    def test_written_out(self):
        self.gives_new([], spare_flags, {"a": 0})
        self.gives_new(["a"], spare_flags, {"a": 1})
        self.gives_new(["a", "b"], spare_flags, {"b": 2, "a": 2})
        self.gives_new([], spare_flags, {"a": 1, "b": 1})
        self.gives_new(["b"], spare_flags, {"a": 1, "b": 2})
        self.gives_new(["a", "b", "c"], spare_flags, {"c": 2, "b": 2, "a": 2})
        self.gives_new(["l"], spare_flags, {**{name: at + 1 for at, name in enumerate(LETTERS[:11])}, "l": 12})

    def test_small(self):
        for budgets in SMALL:
            total = plain_sum(budgets)
            if total > 1:
                share = Share(total.numerator, total.denominator)
                self.fails(SumTooGreat, {"total": share}, spare_flags, budgets)
                continue
            wanted = [
                name for name in sorted(budgets)
                if budgets[name] > 0 and plain_sum({**budgets, name: budgets[name] - 1}) <= 1
            ]
            self.gives_new(wanted, spare_flags, budgets)


class LeastBudgetTest(Case):

    def test_small(self):
        for budgets in SMALL:
            for writer in budgets:
                enough = [flags for flags in range(31) if plain_sum({**budgets, writer: flags}) <= 1]
                self.gives(enough[0] if enough else None, least_budget, budgets, writer)

    def test_alone(self):
        for flags in [0, 1, 5, 30]:
            self.gives(0, least_budget, {"a": flags}, "a")

    def test_edges(self):
        self.gives(None, least_budget, {"a": 0, "b": 30}, "b")
        self.gives(None, least_budget, {"a": 1, "b": 1, "c": 30}, "c")
        self.gives(None, least_budget, {"a": 0, "b": 0, "c": 0}, "c")
        self.gives(1, least_budget, {"a": 30, "b": 30}, "b")
        nearly = {name: at + 1 for at, name in enumerate(LETTERS[:11])}
        self.gives(11, least_budget, {**nearly, "l": 0}, "l")
        nearly["k"] = 30
        self.gives(11, least_budget, {**nearly, "l": 30}, "l")

    def test_unknown_writer(self):
        for writer in UNKNOWN:
            self.fails(UnknownWriter, {"writer": writer}, least_budget, {"a": 0, "b": 0}, writer)


class LeastRaiseTest(Case):

    def test_examples(self):
        self.gives_new({"a": 2, "b": 2, "c": 1}, least_raise, {"a": 1, "b": 1, "c": 1})
        self.gives_new({"a": 1, "b": 1}, least_raise, {"b": 0, "a": 0})
        self.gives_new({"a": 2, "b": 1, "c": 2}, least_raise, {"c": 2, "a": 0, "b": 1})
        self.gives_new({"a": 30}, least_raise, {"a": 30})
        self.gives_new({"a": 1, "b": 30}, least_raise, {"b": 30, "a": 0})
        self.gives_new({name: 4 if name < "i" else 3 for name in LETTERS[:12]}, least_raise, {
            name: 0 for name in LETTERS[11::-1]
        })

    def test_small(self):
        for budgets in SMALL:
            wanted = dict(budgets)
            while plain_sum(wanted) > 1:
                wanted[min(wanted, key=lambda name: (wanted[name], name))] += 1
            self.gives_new(wanted, least_raise, budgets)
            self.assertEqual(list(least_raise(budgets)), sorted(budgets))

    def test_as_few_flags_as_possible(self):
        for budgets in SMALL:
            added = sum(least_raise(budgets).values()) - sum(budgets.values())
            for more in product(range(added), repeat=len(budgets)):
                if sum(more) < added:
                    raised = {name: budgets[name] + flags for name, flags in zip(budgets, more)}
                    self.assertGreater(plain_sum(raised), 1)


class WrongBudgetsTest(Case):

    def each_function(self, error, attributes, budgets):
        for function in [flag_sum, fit_tree, spare_flags, least_raise]:
            self.fails(error, attributes, function, budgets)
        self.fails(error, attributes, fits, "a", budgets)
        self.fails(error, attributes, least_budget, budgets, "zz")

    def test_too_many(self):
        self.each_function(TooMany, {"most": 12}, THIRTEEN)
        self.each_function(TooMany, {"most": 12}, {**THIRTEEN, "A": -1})

    def test_invalid_name(self):
        for name in NO_NAMES:
            if isinstance(name, (str, int, tuple)):
                self.each_function(InvalidName, {"name": name}, {"a": 0, name: 0, "b": -1})
        self.each_function(InvalidName, {"name": "A"}, {"B": 0, "A": 0, "a": 31, "ab1": 0})
        self.each_function(InvalidName, {"name": "abcdefghi"}, {"zZ": 0, "abcdefghi": 0, "a": 0})

    def test_invalid_budget(self):
        for flags in [-1, 31, -10 ** 30, 10 ** 30]:
            self.each_function(InvalidBudget, {"writer": "b"}, {"c": flags, "b": flags, "a": 0})
            self.each_function(InvalidBudget, {"writer": "a"}, {"a": flags})

    def test_limits(self):
        for flags in [0, 30]:
            self.assertEqual(flag_sum({"a": flags}), Share(1, 2 ** flags))
        twelve = {name: 30 for name in LETTERS[:12]}
        self.assertTrue(is_tree(fit_tree(twelve)))
        self.gives(1, least_budget, twelve, "l")
        self.gives_new(LETTERS[:12], spare_flags, twelve)


class EvenTest(Case):

    def test_least_total_of_small_counts(self):
        best = {1: 0}
        for count in range(2, 130):
            best[count] = count + min([best[left] + best[count - left] for left in range(1, count)])
        for count, wanted in best.items():
            self.gives(wanted, least_total, count)

    def test_least_total_of_great_counts(self):
        for floor in [59, 60, 199, 300]:
            power = 2 ** floor
            self.gives(power * floor, least_total, power)
            self.gives((power + 1) * floor + 2, least_total, power + 1)
            self.gives((power - 1) * (floor - 1) + power - 2, least_total, power - 1)
        count = 10 ** 59 + 12345
        floor = max([floor for floor in range(300) if 2 ** floor <= count])
        self.gives(count * floor + 2 * (count - 2 ** floor), least_total, count)

    def test_even_tree(self):
        self.gives("a", even_tree, ["a"])
        self.gives(("a", "b"), even_tree, ["b", "a"])
        self.gives(("a", ("b", "c")), even_tree, ["c", "a", "b"])
        self.gives((("a", "b"), ("c", "d")), even_tree, ["d", "c", "b", "a"])
        self.gives((("a", "b"), ("c", ("d", "e"))), even_tree, list("edcba"))
        self.gives((("a", ("b", "c")), (("d", "e"), ("f", "g"))), even_tree, list("gfedcba"))

    def test_even_tree_has_the_least_total(self):
        for count in range(1, 13):
            names = LETTERS[:count]
            depths = [len(way) for way in plain_ways(even_tree(names[::-1])).values()]
            self.assertEqual(sum(depths), least_total(count))
            self.assertLessEqual(max(depths) - min(depths), 1)
            self.assertEqual(list(plain_ways(even_tree(names))), names)

    def test_wrong_names(self):
        self.fails(TooMany, {"most": 12}, even_tree, LETTERS[:13])
        self.fails(TooMany, {"most": 12}, even_tree, ["A"] * 13)
        self.fails(InvalidName, {"name": "A"}, even_tree, ["b", "A", "b", "B"])
        self.fails(DuplicateWriter, {"writer": "b"}, even_tree, ["b", "b", "A"])
        for value in NO_NAMES:
            self.fails(InvalidName, {"name": value}, even_tree, ["a", value])
