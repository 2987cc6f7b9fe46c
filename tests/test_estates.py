"""The total of claims, and what lacks [7]."""

import random
import unittest
from fractions import Fraction

from helper import LeanCase, as_ratio, as_ratios, fractions, mixed_cases, small_cases
from leanestate.errors import NoEstate
from leanestate.estates import lack, total


def drawn(count, figures, lowest):
    source = random.Random(count * figures)
    most = 10 ** figures
    return [Fraction(source.randrange(lowest * most, most), source.randrange(1, most)) for _ in range(count)]


class Totals(LeanCase):
    def assert_total(self, numbers):
        wanted = as_ratio(sum(numbers, Fraction(0)))
        for listed in (numbers, numbers[::-1]):
            answer = total(as_ratios(listed))
            self.assert_is_ratio(answer)
            self.assertEqual(answer, wanted)

    def test_of_none(self):
        self.assertEqual(total([]), (0, 1))

    def test_known_ones(self):
        self.assertEqual(total([(3, 2)]), (3, 2))
        self.assertEqual(total([(-3, 2)]), (-3, 2))
        self.assertEqual(total([(1, 2), (1, 3), (1, 6)]), (1, 1))
        self.assertEqual(total([(1, 2), (-1, 2)]), (0, 1))
        self.assertEqual(total([(1, 6), (1, 10), (-1, 15)]), (1, 5))
        self.assertEqual(total([(0, 1)] * 9), (0, 1))
        self.assertEqual(total([(1, 9)] * 9), (1, 1))
        self.assertEqual(total([(-1, 4)] * 10), (-5, 2))

    def test_one_eight_nine_and_a_hundred(self):
        for count in (1, 2, 8, 9, 100):
            for figures in (1, 3, 30):
                for lowest in (0, -1):
                    with self.subTest(count=count, figures=figures, lowest=lowest):
                        self.assert_total(drawn(count, figures, lowest))

    def test_a_thousand(self):
        self.assert_total(drawn(1000, 2, -1))
        self.assert_total([Fraction(1, 7)] * 1000)
        self.assert_total([Fraction(10 ** 300 - 1)] * 1000)

    def test_such_as_come_to_nought(self):
        numbers = drawn(50, 30, -1)
        self.assert_total(numbers + [-number for number in numbers])

    def test_three_hundred_figures(self):
        self.assert_total(drawn(8, 300, 0))
        self.assert_total(drawn(8, 300, -1))


class Lacks(LeanCase):
    def assert_lack(self, claims, estate):
        answer = lack(as_ratios(claims), as_ratio(estate))
        self.assert_is_ratio(answer)
        self.assertEqual(answer, as_ratio(sum(claims, Fraction(0)) - estate))

    def test_known_ones(self):
        self.assertEqual(lack([], (0, 1)), (0, 1))
        self.assertEqual(lack([(0, 1)], (0, 1)), (0, 1))
        self.assertEqual(lack([(1, 2), (1, 3)], (0, 1)), (5, 6))
        self.assertEqual(lack([(1, 2), (1, 3)], (5, 6)), (0, 1))
        self.assertEqual(lack([(1, 2), (1, 3)], (1, 4)), (7, 12))

    def test_small_ones(self):
        for claims, estate in small_cases():
            self.assert_lack(claims, estate)

    def test_mixed_ones(self):
        for claims, estate in mixed_cases():
            self.assert_lack(claims, estate)

    def test_just_within_and_just_beyond(self):
        claims = as_ratios(fractions("1/2 1/3 5/7"))
        little = Fraction(1, 10 ** 30)
        whole = Fraction(1, 2) + Fraction(1, 3) + Fraction(5, 7)
        self.assertEqual(lack(claims, as_ratio(whole - little)), as_ratio(little))
        self.assertEqual(lack(claims, as_ratio(whole)), (0, 1))
        self.assertRaises(NoEstate, lack, claims, as_ratio(whole + little))
        self.assertRaises(NoEstate, lack, claims, as_ratio(-little))


if __name__ == "__main__":
    unittest.main()
