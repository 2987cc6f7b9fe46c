"""Ratios [4], what is told of two of them [5], and what a whole number is [2]."""

import math
import unittest
from fractions import Fraction

from helper import LeanCase, as_ratio
from leanestate.errors import NoRatio
from leanestate.ratios import common_bottom, less, lesser_of, minus, over, plus, ratio, times, tops_over

GREAT = 10 ** 300 - 1
GREATS = (GREAT, GREAT - 1, 10 ** 299, 2 ** 996, 3 ** 628, 2 ** 498 * 3 ** 300, math.factorial(166))


def neighbours_of_the_longest_way():
    # Of two neighbours in this row no divisor is found but at the end of the longest way.
    lesser = 1
    greater = 1
    while lesser + greater <= GREAT:
        lesser, greater = greater, lesser + greater
    return lesser, greater


def small_ratios():
    return sorted({as_ratio(Fraction(top, bottom)) for top in range(-7, 8) for bottom in range(1, 8)})


def great_ratios():
    found = {as_ratio(Fraction(top, bottom)) for top in GREATS for bottom in (1, 7) + GREATS}
    return sorted(found | {(-top, bottom) for top, bottom in found} | {(0, 1), (1, GREAT), (-1, GREAT)})


class RatioCase(LeanCase):
    def assert_ratio(self, answer, top, bottom):
        self.assert_is_ratio(answer)
        self.assertEqual(answer, as_ratio(Fraction(top, bottom)))


class Making(RatioCase):
    def test_known_ones(self):
        for top, bottom, answer in (
            (6, 4, (3, 2)), (-6, 4, (-3, 2)), (6, -4, (-3, 2)), (-6, -4, (3, 2)),
            (3, 1, (3, 1)), (3, -1, (-3, 1)), (1, 3, (1, 3)), (-5, 3, (-5, 3)),
            (12, 4, (3, 1)), (4, 12, (1, 3)), (7, 7, (1, 1)), (-7, 7, (-1, 1)), (35, 64, (35, 64)),
        ):
            with self.subTest(top=top, bottom=bottom):
                self.assertEqual(ratio(top, bottom), answer)

    def test_nought_on_top(self):
        for bottom in (1, -1, 2, -2, 60, -97, GREAT, -GREAT):
            with self.subTest(bottom=bottom):
                self.assert_ratio(ratio(0, bottom), 0, 1)

    def test_all_small_ones(self):
        for top in range(-72, 73):
            for bottom in list(range(-72, 0)) + list(range(1, 73)):
                self.assert_ratio(ratio(top, bottom), top, bottom)

    def test_multiples_either_way(self):
        for one in (1, 2, 97, 720, 10 ** 149):
            for factor in (1, 2, 3, 360, 10 ** 150):
                for sign in (1, -1):
                    self.assertEqual(ratio(sign * one * factor, one), (sign * factor, 1))
                    self.assertEqual(ratio(one, sign * one * factor), (sign, factor))

    def test_three_hundred_figures(self):
        for top in GREATS:
            for bottom in GREATS:
                for sign in (1, -1):
                    self.assert_ratio(ratio(sign * top, bottom), sign * top, bottom)
                    self.assert_ratio(ratio(top, sign * bottom), sign * top, bottom)
                self.assert_ratio(ratio(-top, -bottom), top, bottom)

    def test_the_longest_way_to_a_divisor(self):
        lesser, greater = neighbours_of_the_longest_way()
        self.assertEqual(len(str(greater)), 300)
        self.assertEqual(ratio(lesser, greater), (lesser, greater))
        self.assertEqual(ratio(-greater, lesser), (-greater, lesser))

    def test_bottom_nought_is_refused(self):
        for top in (0, 1, -1, 12, GREAT, -GREAT):
            with self.subTest(top=top), self.assertRaises(NoRatio):
                ratio(top, 0)

    def test_what_is_no_whole_number_is_refused(self):
        for other in (True, False, "1", 1.0, None, (1, 1)):
            with self.subTest(other=other):
                self.assertRaises(NoRatio, ratio, other, 1)
                self.assertRaises(NoRatio, ratio, 1, other)


class Reckoning(RatioCase):
    def assert_reckoned(self, one, other):
        first = Fraction(*one)
        second = Fraction(*other)
        for answer, wanted in (
            (plus(one, other), first + second),
            (minus(one, other), first - second),
            (times(one, other), first * second),
        ):
            self.assert_ratio(answer, *as_ratio(wanted))
        if second == 0:
            self.assertRaises(NoRatio, over, one, other)
        else:
            self.assert_ratio(over(one, other), *as_ratio(first / second))
        self.assertIs(less(one, other), first < second)

    def test_known_ones(self):
        self.assertEqual(plus((1, 2), (1, 3)), (5, 6))
        self.assertEqual(plus((1, 6), (1, 3)), (1, 2))
        self.assertEqual(minus((1, 2), (2, 3)), (-1, 6))
        self.assertEqual(times((-2, 3), (3, 4)), (-1, 2))
        self.assertEqual(over((1, 2), (-3, 4)), (-2, 3))
        self.assertEqual(over((0, 1), (-3, 4)), (0, 1))

    def test_small_ones(self):
        for one in small_ratios():
            for other in small_ratios():
                self.assert_reckoned(one, other)

    def test_great_ones(self):
        mixed = great_ratios()
        for place, one in enumerate(mixed):
            for other in mixed[place % 5::5]:
                self.assert_reckoned(one, other)

    def test_small_with_great(self):
        for one in ((0, 1), (1, 1), (-1, 1), (5, 6), (-6, 5)):
            for other in great_ratios():
                self.assert_reckoned(one, other)
                self.assert_reckoned(other, one)

    def test_one_less_itself_is_nought(self):
        for one in small_ratios() + great_ratios():
            self.assertEqual(minus(one, one), (0, 1))

    def test_one_parted_by_itself_is_one(self):
        for one in small_ratios() + great_ratios():
            if one != (0, 1):
                self.assertEqual(over(one, one), (1, 1))

    def test_parted_by_nought_is_refused(self):
        for one in [(0, 1), (1, 1), (-1, 1)] + great_ratios():
            with self.subTest(one=one), self.assertRaises(NoRatio):
                over(one, (0, 1))


class Comparing(unittest.TestCase):
    def test_like_ones(self):
        for one in small_ratios() + great_ratios():
            self.assertIs(less(one, (one[0], one[1])), False)

    def test_such_that_differ_by_little(self):
        for lesser, greater in (
            ((1, 3), (1, 2)), ((-1, 2), (-1, 3)), ((-1, 2), (1, 3)), ((0, 1), (1, 9)), ((-1, 9), (0, 1)),
            ((GREAT - 1, GREAT), (1, 1)), ((-1, 1), (1 - GREAT, GREAT)), ((0, 1), (1, GREAT)),
            ((-1, GREAT), (0, 1)), ((1, GREAT), (1, GREAT - 1)), ((GREAT - 1, 1), (GREAT, 1)),
            ((GREAT - 2, GREAT - 1), (GREAT - 1, GREAT)),
        ):
            with self.subTest(lesser=lesser, greater=greater):
                self.assertIs(less(lesser, greater), True)
                self.assertIs(less(greater, lesser), False)
                self.assertEqual(lesser_of(lesser, greater), lesser)
                self.assertEqual(lesser_of(greater, lesser), lesser)


class OneBottom(unittest.TestCase):
    def test_the_least_common_bottom(self):
        for ratios, bottom in (
            ([], 1), ([(0, 1)], 1), ([(5, 1), (-7, 1)], 1), ([(1, 6)], 6), ([(1, 4), (1, 6)], 12),
            ([(1, 6), (-5, 4), (1, 9)], 36), ([(1, 2), (1, 3), (2, 5), (1, 30)], 30), ([(1, GREAT)] * 3, GREAT),
        ):
            with self.subTest(ratios=ratios):
                self.assertEqual(common_bottom(ratios), bottom)

    def test_tops_over_it(self):
        self.assertEqual(tops_over(36, [(1, 6), (-5, 4), (1, 9), (0, 1), (2, 1)]), [6, -45, 4, 0, 72])
        self.assertEqual(tops_over(1, []), [])


if __name__ == "__main__":
    unittest.main()
