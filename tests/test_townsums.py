"""Points 35 and 40: the sums of towns."""

from forkflags.errors import InvalidSizes, InvalidTown, InvalidTree, TooMany, UnknownHall, UnknownWriter
from forkflags.shares import Share
from forkflags.towns import is_town
from forkflags.townsums import house_sum, least_dial, town_fault, town_of_tree
from tests.helpers import LETTERS, NO_TREES, Case, all_shapes, comb_tree, plain_ways as ways_in_tree
from tests.test_dials import NO_SIZES
from tests.test_towns import NO_TOWNS, TOWN, TOWNS, WIDE, deep_town, plain_houses, plain_ways

SIZES = {"a": 3, "b": 4, "c": 2}


def names_of(town):
    return sorted([name for house in plain_houses(town).values() for name in house])


def some_sizes(town, step):
    """Return sizes that are neither all alike nor all great."""
    return {name: 1 + (at * 7 + 1) * step % 60 for at, name in enumerate(names_of(town))}


def plain_sum(town, sizes, house):
    """Return top and bottom of the sum of a house, not in lowest terms."""
    top, bottom = 0, 1
    for name in plain_houses(town)[house]:
        top, bottom = top * sizes[name] + bottom, bottom * sizes[name]
    return top * plain_ways(town, house), bottom


class ExamplesTest(Case):

    def test_examples(self):
        house, total = town_fault(TOWN, SIZES)
        self.assertEqual([house, str(total)], ["0", "7/6"])
        self.gives(6, least_dial, TOWN, SIZES, "b")


class SumTest(Case):

    def test_sums(self):
        for town in TOWNS:
            for step in [1, 5, 13, 59]:
                sizes = some_sizes(town, step)
                for house in plain_houses(town):
                    self.gives(Share(*plain_sum(town, sizes, house)), house_sum, town, sizes, house)

    def test_fault(self):
        for town in TOWNS:
            for step in [1, 5, 13, 31, 59]:
                sizes = some_sizes(town, step)
                wanted = None
                for house in plain_houses(town):
                    top, bottom = plain_sum(town, sizes, house)
                    if top > bottom and wanted is None:
                        wanted = (house, Share(top, bottom))
                self.gives(wanted, town_fault, town, sizes)

    def test_one_and_just_above_one(self):
        self.gives(None, town_fault, TOWN, {"a": 4, "b": 4, "c": 2})
        self.gives(None, town_fault, TOWN, {"a": 3, "b": 6, "c": 2})
        self.gives(("0", Share(16, 15)), town_fault, TOWN, {"a": 3, "b": 5, "c": 2})
        self.gives(("1", Share(2)), town_fault, TOWN, {"a": 4, "b": 4, "c": 1})
        self.gives(("0", Share(2)), town_fault, TOWN, {"a": 2, "b": 2, "c": 1})
        self.gives(Share(1), house_sum, TOWN, {"a": 3, "b": 6, "c": 2}, "0")
        self.gives(Share(1), house_sum, TOWN, {"a": 3, "b": 6, "c": 2}, "1")

    def test_house_that_is_the_whole_town(self):
        self.gives(Share(1), house_sum, ("a",), {"a": 1}, "")
        self.gives(Share(1, 60), house_sum, ("a",), {"a": 60}, "")
        self.gives(None, town_fault, ("a",), {"a": 1})
        self.gives(("", Share(3, 2)), town_fault, ("b", "a"), {"a": 1, "b": 2})

    def test_other_keys_are_ignored(self):
        sizes = {**SIZES, "d": 0, "A": None, "zz": 1000, 3: 3}
        self.gives(Share(7, 6), house_sum, TOWN, sizes, "0")
        self.gives(("0", Share(7, 6)), town_fault, TOWN, sizes)
        self.gives(6, least_dial, TOWN, sizes, "b")
        self.fails(UnknownWriter, {"writer": "d"}, least_dial, TOWN, sizes, "d")


class LeastTest(Case):

    def test_least(self):
        for town in TOWNS:
            for step in [1, 5, 13, 31, 59]:
                sizes = some_sizes(town, step)
                for house, names in plain_houses(town).items():
                    for name in names:
                        least = least_dial(town, sizes, name)
                        self.gives(least, least_dial, town, sizes, name)
                        # A dial of any size adds something, so this asks whether the others leave nothing.
                        top, bottom = plain_sum(town, {**sizes, name: 10 ** 30}, house)
                        if least is None:
                            self.assertGreater(top, bottom)
                            continue
                        top, bottom = plain_sum(town, {**sizes, name: least}, house)
                        self.assertLessEqual(top, bottom)
                        if least > 1:
                            top, bottom = plain_sum(town, {**sizes, name: least - 1}, house)
                            self.assertGreater(top, bottom)

    def test_more_than_60(self):
        town = (("a", "b", "c"), ("d",))
        # Beside 2/3 and 2/7 there is 1/21 left for two ways.
        self.gives(42, least_dial, town, {"a": 3, "b": 7, "c": 1, "d": 1}, "c")
        # Beside 2/5 and 2/4 there is 1/10 left, beside 2/59 and 2/3 there is 53/177 left.
        self.gives(20, least_dial, town, {"a": 5, "b": 4, "c": 1, "d": 1}, "c")
        self.gives(7, least_dial, town, {"a": 59, "b": 3, "c": 60, "d": 1}, "c")
        # 2/4 and 2/5 and 2/60 leave 1/15, so 2/30 fits.
        self.gives(30, least_dial, (("a", "b", "c", "e"), ("d",)), {"a": 5, "b": 4, "c": 60, "d": 1, "e": 1}, "e")
        self.gives(42, least_dial, tuple("abcd"), {"a": 2, "b": 3, "c": 7, "d": 1}, "d")
        self.gives(1806, least_dial, tuple("abcde"), {"a": 2, "b": 3, "c": 7, "d": 43, "e": 60}, "e")

    def test_nothing_left(self):
        self.gives(None, least_dial, ("a", "b"), {"a": 1, "b": 60}, "b")
        self.gives(None, least_dial, TOWN, {"a": 2, "b": 60, "c": 60}, "b")
        self.gives(None, least_dial, TOWN, {"a": 1, "b": 60, "c": 60}, "b")
        self.gives(6, least_dial, TOWN, {"a": 3, "b": 1, "c": 1}, "b")

    def test_alone(self):
        for size in [1, 7, 60]:
            self.gives(1, least_dial, ("a",), {"a": size}, "a")
            self.gives(2, least_dial, TOWN, {"a": 1, "b": 1, "c": size}, "c")
            self.gives(32, least_dial, deep_town(6), {name: size for name in LETTERS[:6]}, "a")


class ErrorsTest(Case):

    def test_invalid_town(self):
        for town in NO_TOWNS:
            for sizes in [SIZES, {}]:
                self.fails(InvalidTown, {}, house_sum, town, sizes, "x")
                self.fails(InvalidTown, {}, town_fault, town, sizes)
                self.fails(InvalidTown, {}, least_dial, town, sizes, "x")

    def sizes_fail(self, writer, town, sizes):
        """Ask for the error for this writer, also if house and writer are unknown."""
        for house in ["", "0", "1", "x"]:
            self.fails(InvalidSizes, {"writer": writer}, house_sum, town, sizes, house)
        self.fails(InvalidSizes, {"writer": writer}, town_fault, town, sizes)
        for name in ["a", "b", "c", "x"]:
            self.fails(InvalidSizes, {"writer": writer}, least_dial, town, sizes, name)

    def test_invalid_sizes(self):
        for size in NO_SIZES:
            for name in ["a", "b", "c"]:
                self.sizes_fail(name, TOWN, {**SIZES, name: size})
            self.sizes_fail("a", (("c", "b"), ("a",)), {"c": size, "b": size, "a": size})
            self.sizes_fail("b", (("c", "b"), ("a",)), {"c": size, "a": 1})

    def test_missing_sizes(self):
        self.sizes_fail("a", TOWN, {})
        self.sizes_fail("b", TOWN, {"a": 1, "d": 5})
        self.sizes_fail("c", TOWN, {"b": 1, "a": 1})
        self.sizes_fail("b", (("c", "b"), ("a",)), {"a": 1})

    def test_sizes_1_and_60(self):
        self.gives(Share(3), house_sum, WIDE[:1] + (("b",), ("c",)), {"g": 1, "a": 60, "b": 1, "c": 60}, "1")

    def test_unknown(self):
        for hall in ["", "2", "00", "a", None, ["0"], 0]:
            self.fails(UnknownHall, {"hall": hall}, house_sum, TOWN, SIZES, hall)
        for hall in ["", "1", "11"]:
            sizes = {name: 60 for name in names_of(WIDE)}
            self.fails(UnknownHall, {"hall": hall}, house_sum, WIDE, sizes, hall)
        for writer in ["d", "0", "", None, ["a"], {}, ("a", "b")]:
            self.fails(UnknownWriter, {"writer": writer}, least_dial, TOWN, SIZES, writer)


class TreeTest(Case):

    def test_written_out(self):
        self.gives((("a",), {"a": 1}), town_of_tree, "a")
        self.gives(((("a",), ("b",)), {"a": 2, "b": 2}), town_of_tree, ("a", "b"))
        self.gives(
            (((("zz",), ("b",)), ("c",)), {"b": 4, "c": 2, "zz": 4}), town_of_tree, (("zz", "b"), "c"),
        )

    def test_sums_are_one(self):
        trees = [comb_tree(LETTERS[:many]) for many in range(1, 7)] + all_shapes(list("cabed"))
        trees.append(((("a", "b"), ("c", "d")), (("e", "f"), ("g", "h"))))
        for tree in trees:
            town, sizes = town_of_tree(tree)
            self.gives((town, sizes), town_of_tree, tree)
            self.assertTrue(is_town(town))
            self.assertEqual(sizes, {name: 2 ** len(way) for name, way in ways_in_tree(tree).items()})
            self.assertEqual(plain_houses(town), {way: (name,) for name, way in ways_in_tree(tree).items()})
            for house in plain_houses(town):
                self.gives(Share(1), house_sum, town, sizes, house)
            self.gives(None, town_fault, town, sizes)

    def test_change_of_the_sizes(self):
        _, sizes = town_of_tree(("a", "b"))
        sizes.clear()
        self.gives(((("a",), ("b",)), {"a": 2, "b": 2}), town_of_tree, ("a", "b"))

    def test_height(self):
        self.assertEqual(town_of_tree(comb_tree(LETTERS[:6]))[0], comb_town(LETTERS[:6]))
        self.fails(TooMany, {"most": 5}, town_of_tree, comb_tree(LETTERS[:7]))
        self.fails(TooMany, {"most": 5}, town_of_tree, comb_tree(LETTERS[:12]))

    def test_leaves(self):
        eight = ((("a", "b"), ("c", "d")), (("e", "f"), ("g", "h")))
        self.assertEqual(town_of_tree(eight)[1], {name: 8 for name in LETTERS[:8]})
        self.fails(TooMany, {"most": 8}, town_of_tree, (eight, "i"))
        self.fails(TooMany, {"most": 8}, town_of_tree, (eight[0], ("i", (eight[1][0], ("g", "h")))))
        self.fails(TooMany, {"most": 5}, town_of_tree, (comb_tree(LETTERS[:7]), (("i", "j"), "k")))

    def test_invalid_tree(self):
        for value in NO_TREES:
            self.fails(InvalidTree, {}, town_of_tree, value)


def comb_town(names):
    """Return the town of a comb tree."""
    town = (names[-1],)
    for name in names[-2::-1]:
        town = ((name,), town)
    return town
