"""Points 6 and 7: shares."""

from fractions import Fraction
from itertools import product
from unittest import mock

from forkflags.errors import InvalidShare
from forkflags.shares import Share, add_shares
from tests.helpers import Case

GREAT = 10 ** 99 + 7
PAIRS = [(top, bottom) for top in range(7) for bottom in range(1, 7)]


def value_of(share):
    return Fraction(share.top, share.bottom)


class ShareTest(Case):

    def shows(self, share, top, bottom):
        self.assertIs(share.__class__, Share)
        self.assertEqual((share.top, share.bottom), (top, bottom))

    def test_lowest_terms(self):
        for top, bottom in PAIRS:
            least = Fraction(top, bottom)
            self.shows(Share(top, bottom), least.numerator, least.denominator)
        self.shows(Share(5), 5, 1)
        self.shows(Share(6, 8), 3, 4)
        self.shows(Share(top=6, bottom=4), 3, 2)
        self.shows(Share(3, bottom=9), 1, 3)

    def test_zero(self):
        self.shows(Share(0), 0, 1)
        self.shows(Share(0, 5), 0, 1)
        self.shows(Share(0, GREAT), 0, 1)

    def test_great_numbers(self):
        self.shows(Share(GREAT * 6, GREAT * 4), 3, 2)
        self.shows(Share(GREAT, GREAT + 1), GREAT, GREAT + 1)
        self.shows(Share(GREAT) + Share(1, GREAT), GREAT * GREAT + 1, GREAT)
        self.shows(Share(GREAT, 3) * Share(3, GREAT), 1, 1)
        self.assertTrue(Share(GREAT, GREAT + 1).at_most(Share(GREAT + 1, GREAT + 2)))
        self.assertFalse(Share(GREAT + 1, GREAT + 2).at_most(Share(GREAT, GREAT + 1)))
        self.assertFalse(Share(GREAT, GREAT + 1) == Share(GREAT + 1, GREAT + 2))

    def test_invalid(self):
        for top, bottom in [(-1, 1), (-1, 2), (1, 0), (0, 0), (1, -1), (-1, -1), (-GREAT, 1), (1, -GREAT), (-1, 0)]:
            self.fails(InvalidShare, {}, Share, top, bottom)
        self.fails(InvalidShare, {}, Share, -1)
        self.fails(InvalidShare, {}, Share, 0, bottom=0)

    def test_add_and_times(self):
        for first, second in product(PAIRS, PAIRS):
            one, two = Share(*first), Share(*second)
            total, times = one + two, one * two
            self.assertEqual(value_of(total), value_of(one) + value_of(two))
            self.assertEqual(value_of(times), value_of(one) * value_of(two))
            for share in [total, times]:
                least = value_of(share)
                self.shows(share, least.numerator, least.denominator)
            self.assertEqual([value_of(one), value_of(two)], [Fraction(*first), Fraction(*second)])

    def test_results_are_new(self):
        share, zero, one = Share(1, 2), Share(0), Share(1)
        for other in [share + zero, zero + share, share * one, one * share, add_shares(share)]:
            self.shows(other, 1, 2)
            self.assertIsNot(other, share)

    def test_wrong_other_side(self):
        for other in [1, "1", None, (1, 1)]:
            with self.assertRaises(TypeError):
                Share(1) + other
            with self.assertRaises(TypeError):
                Share(1) * other

    def test_equal(self):
        for first, second in product(PAIRS, PAIRS):
            same = Fraction(*first) == Fraction(*second)
            self.assertIs(Share(*first) == Share(*second), same)
            self.assertIs(Share(*first) != Share(*second), not same)

    def test_not_equal_to_other_kinds(self):
        for other in [1, "1", (1, 1), [1, 1], None, True, Fraction(1), "Share(1, 1)", Share, mock.ANY]:
            self.assertIs(Share(1) == other, False)
        for other in [1, "1", (1, 1), None]:
            self.assertIs(other == Share(1), False)
            self.assertIs(Share(1) != other, True)

    def test_at_most(self):
        for first, second in product(PAIRS, PAIRS):
            self.assertIs(Share(*first).at_most(Share(*second)), Fraction(*first) <= Fraction(*second))

    def test_written(self):
        for share, text, shown in [
            (Share(3, 4), "3/4", "Share(3, 4)"), (Share(4, 2), "2", "Share(2, 1)"), (Share(0, 9), "0", "Share(0, 1)"),
            (Share(6, 4), "3/2", "Share(3, 2)"), (Share(1), "1", "Share(1, 1)"),
            (Share(GREAT), str(GREAT), f"Share({GREAT}, 1)"),
            (Share(GREAT, 10 ** 99), f"{GREAT}/{10 ** 99}", f"Share({GREAT}, {10 ** 99})"),
        ]:
            self.assertEqual(str(share), text)
            self.assertEqual(repr(share), shown)
            self.assertEqual(f"{share}", text)


class PowersAndSumsTest(Case):

    def test_half_power(self):
        for k in [*range(70), 300]:
            power = Share.half_power(k)
            self.assertIs(power.__class__, Share)
            self.assertEqual((power.top, power.bottom), (1, 2 ** k))
        self.assertEqual(str(Share.half_power(0)), "1")
        self.assertEqual(Share(1).half_power(k=3), Share(1, 8))

    def test_half_power_of_negative_exponents(self):
        for k in [-1, -2, -300, -GREAT]:
            self.fails(InvalidShare, {}, Share.half_power, k)

    def test_add_shares(self):
        self.assertEqual(str(add_shares(Share(1, 2), Share.half_power(2), Share(2, 8))), "1")
        self.assertEqual(add_shares(Share(1, 3)), Share(1, 3))
        self.assertEqual(add_shares(Share(1, 3), Share(1, 6)), Share(1, 2))
        self.assertEqual(add_shares(*[Share(1, k) for k in range(1, 11)]), Share(7381, 2520))
        self.assertEqual(add_shares(*[Share.half_power(300)] * 4), Share.half_power(298))

    def test_add_nothing(self):
        self.assertEqual((add_shares().top, add_shares().bottom), (0, 1))
        self.assertIs(add_shares().__class__, Share)

    def test_arguments_stay(self):
        row = [Share(1, 2), Share(2, 3)]
        add_shares(*row)
        self.assertEqual([(share.top, share.bottom) for share in row], [(1, 2), (2, 3)])
