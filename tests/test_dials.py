"""Points 30 to 32: dial codes."""

from math import lcm

from forkflags.dials import DialCode
from forkflags.errors import InvalidName, InvalidSizes, InvalidState, NoRight, SumTooGreat, UnknownWriter
from forkflags.shares import Share
from tests.helpers import LETTERS, Case, all_states

EXAMPLE = ({"a": 2, "b": 4, "c": 4}, {"a": ["a"], "b": ["b"], "c": ["c"]})
# Sizes, rights and copies of small codes.
CODES = [
    (*EXAMPLE, 1),
    ({"a": 1}, {"a": ["x"]}, 1),
    ({"zz": 3}, {"zz": ["x", "b", "aa"]}, 1),
    ({"a": 3}, {"a": ["x", "b"]}, 1),
    ({"a": 6, "b": 3}, {"b": ["p"], "a": ["q", "p"]}, 2),
    ({"b": 6, "a": 4}, {"b": ["p"], "a": ["q"]}, 2),
    ({"a": 5, "b": 2, "c": 7}, {"a": [], "b": ["v"], "c": ["v", "u"]}, 1),
    ({"a": 6, "b": 4, "c": 10}, {"a": ["n", "m"], "b": [], "c": ["m", "o"]}, 2),
    ({"a": 1, "b": 5}, {"a": [], "b": ["b", "a"]}, 2),
    ({"a": 4, "b": 5, "c": 6}, {"c": ["c"], "b": ["b"], "a": ["a"]}, 1),
    ({"a": 2, "b": 3}, {"a": ["s"], "b": ["s"]}, 2),
    ({"b": 12, "a": 8}, {"b": ["s", "t"], "a": ["t"]}, 3),
]
NO_SIZES = [0, -1, 61, 1000, 10 ** 30, None, True, False, "3", 1.0, [3], (3,)]


def plain_least(sizes, rights):
    """Return a dict from each value, ascending, to the least size of a dial that may put it."""
    values = sorted({value for row in rights.values() for value in row})
    return {value: min([sizes[name] for name in sizes if value in rights[name]]) for value in values}


def plain_pairs(sizes, rights, copies):
    """List what each position shows, with None for those that no arc holds."""
    span = lcm(*sizes.values())
    pairs = []
    for value, least in plain_least(sizes, rights).items():
        for copy in range(copies):
            pairs += [(value, copy)] * (span // least)
    return pairs + [None] * (span - len(pairs))


def plain_position(sizes, marks):
    span = lcm(*sizes.values())
    return sum([mark * span // sizes[name] for name, mark in zip(sorted(sizes), marks)]) % span


class ExamplesTest(Case):

    def test_example(self):
        code = DialCode(*EXAMPLE)
        self.assertEqual([code.span, code.names, code.sizes], [4, ["a", "b", "c"], [2, 4, 4]])
        self.assertEqual(code.total, Share(1))
        self.gives(("b", 0), code.pair_shown, (0, 1, 1))
        self.gives(1, code.mark_for, (0, 3, 0), "a", "a", 0)


class AttributesTest(Case):

    def test_attributes(self):
        for sizes, rights, copies in CODES:
            code = DialCode(sizes, rights, copies)
            self.assertEqual(code.names, sorted(sizes))
            self.assertEqual(code.sizes, [sizes[name] for name in sorted(sizes)])
            self.assertEqual(code.span, lcm(*sizes.values()))
            self.assertEqual(str(code.total), str(self.total_of(sizes, rights, copies)))
            self.assertIs(code.total.__class__, Share)

    def total_of(self, sizes, rights, copies):
        total = Share(0)
        for least in plain_least(sizes, rights).values():
            total = total + Share(copies, least)
        return total

    def test_one_copy_unless_told_otherwise(self):
        sizes, rights = {"a": 6}, {"a": ["x", "y"]}
        self.assertEqual(DialCode(sizes, rights).total, Share(1, 3))
        self.assertEqual(DialCode(sizes, rights, copies=2).total, Share(2, 3))
        self.assertEqual([DialCode(sizes, rights).pair_shown((mark,)) for mark in range(4)], [
            ("x", 0), ("y", 0), ("x", 0), ("x", 0),
        ])

    def test_arguments_stay_and_are_copied(self):
        sizes = {"b": 4, "a": 4}
        rights = {"a": ["q", "p"], "b": ["p"]}
        code = DialCode(sizes, rights, 2)
        self.assertEqual(sizes, {"b": 4, "a": 4})
        self.assertEqual(list(sizes), ["b", "a"])
        self.assertEqual(rights, {"a": ["q", "p"], "b": ["p"]})
        before = [code.pair_shown(state) for state in all_states([4, 4])]
        sizes["a"] = 60
        sizes["c"] = 1
        rights["b"].append("q")
        rights["a"].clear()
        del rights["b"]
        self.assertEqual([code.names, code.sizes, code.span], [["a", "b"], [4, 4], 4])
        self.assertEqual([code.pair_shown(state) for state in all_states([4, 4])], before)
        self.fails(NoRight, {"writer": "b"}, code.mark_for, (0, 0), "b", "q", 0)
        self.gives(2, code.mark_for, (0, 0), "a", "q", 0)

    def test_order_of_keys_and_values_has_no_meaning(self):
        for sizes, rights, copies in CODES:
            code = DialCode(sizes, rights, copies)
            other = DialCode(
                {name: sizes[name] for name in reversed(sizes)},
                {name: rights[name][::-1] for name in reversed(rights)}, copies,
            )
            self.assertEqual([code.names, code.sizes, code.span], [other.names, other.sizes, other.span])
            for state in all_states(code.sizes):
                self.assertEqual(code.pair_shown(state), other.pair_shown(state))


class ReadingTest(Case):

    def test_all_states(self):
        for sizes, rights, copies in CODES:
            code = DialCode(sizes, rights, copies)
            pairs = plain_pairs(sizes, rights, copies)
            self.assertEqual(len(pairs), code.span)
            for state in all_states(code.sizes):
                self.gives(pairs[plain_position(sizes, state)] or pairs[0], code.pair_shown, state)

    def test_no_arc_holds_the_position(self):
        code = DialCode({"a": 5}, {"a": ["y", "x"]})
        shown = [code.pair_shown((mark,)) for mark in range(5)]
        self.assertEqual(shown, [("x", 0), ("y", 0), ("x", 0), ("x", 0), ("x", 0)])

    def test_wrong_states(self):
        code = DialCode(*EXAMPLE)
        for state in [
            [0, 0, 0], (0, 0), (0, 0, 0, 0), (), (2, 0, 0), (0, 4, 0), (0, 0, 4), (-1, 0, 0), (True, 0, 0),
            (0, False, 0), (0, 0, None), (0, "0", 0), (0, 1.0, 0), None, 0, "000", {},
        ]:
            self.fails(InvalidState, {}, code.pair_shown, state)
            self.fails(InvalidState, {}, code.mark_for, state, "a", "a", 0)
            self.fails(InvalidState, {}, code.mark_for, state, "zz", "zz", 0)


class SettingTest(Case):

    def test_all_states(self):
        for sizes, rights, copies in CODES:
            code = DialCode(sizes, rights, copies)
            pairs = plain_pairs(sizes, rights, copies)
            least = plain_least(sizes, rights)
            for state in all_states(code.sizes):
                for at, writer in enumerate(code.names):
                    for value in rights[writer]:
                        for copy in range(copies):
                            right = [
                                mark for mark in range(sizes[writer])
                                if pairs[plain_position(sizes, state[:at] + (mark,) + state[at + 1:])] == (value, copy)
                            ]
                            self.assertEqual(code.mark_for(state, writer, value, copy), right[0])
                            self.assertTrue(len(right) == 1 or sizes[writer] > least[value])

    def test_one_mark_and_several_marks(self):
        code = DialCode({"a": 2, "b": 6}, {"a": ["x"], "b": ["x"]})
        # For b the marks 0, 1 and 2 lie in the arc, for a exactly one mark does.
        self.gives(0, code.mark_for, (0, 5), "b", "x", 0)
        self.gives(3, code.mark_for, (1, 5), "b", "x", 0)
        self.gives(1, code.mark_for, (1, 5), "a", "x", 0)
        self.gives(0, code.mark_for, (1, 1), "a", "x", 0)

    def test_first_pair_is_set_into_its_arc(self):
        # At mark 3 no arc holds the position, so the first pair is shown, and yet the mark is another one.
        code = DialCode({"a": 5, "b": 5}, {"a": ["x", "y"], "b": ["x", "y"]})
        self.gives(("x", 0), code.pair_shown, (0, 3))
        self.gives(2, code.mark_for, (0, 3), "a", "x", 0)

    def test_arguments_stay(self):
        code = DialCode(*EXAMPLE)
        for state in all_states(code.sizes):
            for name in "abc":
                self.gives(code.mark_for(state, name, name, 0), code.mark_for, state, name, name, 0)

    def test_errors_in_order(self):
        code = DialCode({"a": 4, "b": 4}, {"a": ["x"], "b": ["y"]})
        self.fails(InvalidState, {}, code.mark_for, (0, 4), "c", "z", 0)
        for writer in ["c", "x", "", "A", None, 0, True, ["a"], {}, ("a",)]:
            self.fails(UnknownWriter, {"writer": writer}, code.mark_for, (0, 3), writer, "z", 0)
        for writer, value in [("a", "y"), ("b", "x"), ("a", "z"), ("a", "a"), ("b", ""), ("b", "yy")]:
            self.fails(NoRight, {"writer": writer}, code.mark_for, (0, 3), writer, value, 0)


class EdgesTest(Case):

    def test_sizes_1_and_60(self):
        code = DialCode({"a": 1, "b": 60}, {"a": ["a"], "b": ["a"]})
        self.assertEqual([code.span, str(code.total)], [60, "1"])
        for mark in range(60):
            self.gives(("a", 0), code.pair_shown, (0, mark))
            self.gives(0, code.mark_for, (0, mark), "a", "a", 0)
            self.gives(0, code.mark_for, (0, mark), "b", "a", 0)

    def test_60_copies(self):
        code = DialCode({"a": 60}, {"a": ["a"]}, 60)
        self.assertEqual(code.total, Share(1))
        for mark in range(60):
            self.gives(("a", mark), code.pair_shown, (mark,))
            self.gives(mark, code.mark_for, (0,), "a", "a", mark)

    def test_64_copies(self):
        self.fails(SumTooGreat, {"total": Share(64, 60)}, DialCode, {"a": 60}, {"a": ["a"]}, 64)
        self.fails(SumTooGreat, {"total": Share(61, 60)}, DialCode, {"a": 60}, {"a": ["a"]}, 61)

    def test_just_above_one(self):
        sizes = {"a": 2, "b": 3, "c": 7, "d": 42}
        rights = {name: [name] for name in sizes}
        self.assertEqual(DialCode(sizes, rights).total, Share(1))
        self.fails(SumTooGreat, {"total": Share(1723, 1722)}, DialCode, {**sizes, "d": 41}, rights)

    def test_long_span(self):
        sizes = dict(zip(LETTERS[:8], [59, 58, 57, 55, 53, 49, 47, 43]))
        code = DialCode(sizes, {name: [name] for name in sizes}, 4)
        self.assertEqual(code.span, lcm(*sizes.values()))
        self.assertEqual(len(str(code.span)), 14)
        # These dials are shown by arcs alone: the positions are far too many to go through.
        state = (58, 1, 33, 0, 52, 20, 46, 42)
        for at, name in enumerate(code.names):
            for copy in range(4):
                mark = code.mark_for(state, name, name, copy)
                self.assertTrue(0 <= mark < sizes[name])
                self.gives((name, copy), code.pair_shown, state[:at] + (mark,) + state[at + 1:])

    def test_span_of_15_digits(self):
        # Eight dials have at most 14 digits, so there is one dial more here.
        sizes = dict(zip(LETTERS[:9], [60, 59, 53, 49, 47, 43, 41, 37, 31]))
        code = DialCode(sizes, {name: [name] for name in sizes}, 4)
        self.assertEqual(code.span, 60 * 59 * 53 * 49 * 47 * 43 * 41 * 37 * 31)
        self.assertEqual(len(str(code.span)), 15)
        state = (0,) * 9
        for at, name in enumerate(code.names):
            for copy in [3, 0, 1, 2]:
                mark = code.mark_for(state, name, name, copy)
                state = state[:at] + (mark,) + state[at + 1:]
                self.gives((name, copy), code.pair_shown, state)

    def test_one_writer_with_an_empty_list(self):
        code = DialCode({"a": 3, "b": 7}, {"a": ["a"], "b": []})
        self.fails(NoRight, {"writer": "b"}, code.mark_for, (0, 0), "b", "a", 0)
        self.gives(("a", 0), code.pair_shown, (0, 6))


class ErrorsTest(Case):

    def test_wrong_names(self):
        for name in ["A", "", "abcdefghi", "a1", "a b", "\u00e9"]:
            self.fails(InvalidName, {"name": name}, DialCode, {name: 3}, {name: ["a"]})
            self.fails(InvalidName, {"name": name}, DialCode, {"b": 0, name: 0}, {"b": ["b"], name: ["a"]})
        self.fails(InvalidName, {"name": None}, DialCode, {None: 3}, {None: ["a"]})
        self.fails(InvalidName, {"name": "B"}, DialCode, {"a": 0, "C": 3, "B": 0, "D": 1}, {"a": ["a"]})

    def test_wrong_sizes(self):
        for size in NO_SIZES:
            self.fails(InvalidSizes, {"writer": "a"}, DialCode, {"a": size}, {"a": ["a"]})
            self.fails(InvalidSizes, {"writer": "b"}, DialCode, {"c": size, "b": size, "a": 1}, {
                "a": ["a"], "b": ["b"], "c": ["c"],
            })

    def test_sum_too_great(self):
        sizes = {"a": 2, "b": 3, "c": 5}
        rights = {"a": ["x", "y"], "b": ["y"], "c": ["z", "y"]}
        self.fails(SumTooGreat, {"total": Share(6, 5)}, DialCode, sizes, rights)
        self.fails(SumTooGreat, {"total": Share(12, 5)}, DialCode, sizes, rights, 2)
        self.fails(SumTooGreat, {"total": Share(2)}, DialCode, {"a": 1}, {"a": ["x", "y"]})
