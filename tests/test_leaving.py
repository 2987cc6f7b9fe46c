"""Some stay, the others leave with what they got [21]."""

import itertools
import unittest
from fractions import Fraction

from helper import (
    FOUR_WORDS, RULES, LeanCase, as_ratio, as_ratios, asked, fractions, mixed_cases, small_cases, words_for,
)
from leanestate.errors import NoClaim, NoClaimer, NoEstate, NoRule, TooMany
from leanestate.leaving import left
from leanestate.sharing import shared


def stays_of(count):
    """All who may stay, or, among more than four, nobody, each one alone, all but one, some, and all."""
    if count <= 4:
        return [list(stay) for size in range(count + 1) for stay in itertools.combinations(range(count), size)]
    everybody = list(range(count))
    found = [[], everybody, everybody[::2], everybody[1::2], everybody[:3], everybody[-3:], everybody[1:-1]]
    found += [[claimer] for claimer in everybody]
    return found + [everybody[:claimer] + everybody[claimer + 1:] for claimer in everybody]


class Left(LeanCase):
    def assert_left(self, rule, claims, estate, stay):
        answer = left(rule, as_ratios(claims), as_ratio(estate), list(stay))
        self.assertEqual([type(answer), len(answer), type(answer[0])], [tuple, 2, list])
        for one in answer[0] + [answer[1]]:
            self.assert_is_ratio(one)
        parts = asked(RULES[rule], claims, estate)
        together = sum((parts[claimer] for claimer in stay), Fraction(0))
        wanted = (as_ratios([claims[claimer] for claimer in stay]), as_ratio(together))
        self.assertEqual(answer, wanted, (rule, claims, estate, stay))
        if rule in FOUR_WORDS:
            again = shared(rule, answer[0], answer[1])
            self.assertEqual(again, as_ratios([parts[claimer] for claimer in stay]), (rule, claims, estate, stay))

    def test_known_ones(self):
        for rule, claims, estate, stay, stayed, together in (
            ("gains", "1 2 3", "4", [0, 2], "1 3", "5/2"), ("shares", "1 2 3", "4", [1, 2], "2 3", "10/3"),
            ("losses", "1 2 3", "4", [0, 1], "1 2", "5/3"), ("halves", "1 2 3", "4", [0, 1], "1 2", "7/4"),
            ("turns", "1 2 3", "4", [0, 1], "1 2", "11/6"), ("turns", "1 2 3", "4", [2], "3", "13/6"),
            ("gains", "1 2 3", "4", [], "", "0"), ("gains", "1 2 3", "4", [0, 1, 2], "1 2 3", "4"),
            ("gains", "3 1 2", "4", [0, 1], "3 1", "5/2"), ("turns", "", "0", [], "", "0"),
            ("halves", "100 200 300", "200", [0, 2], "100 300", "125"), ("shares", "0 0", "0", [1], "0", "0"),
        ):
            with self.subTest(rule=rule, claims=claims, estate=estate, stay=stay):
                answer = left(rule, as_ratios(fractions(claims)), as_ratio(estate), stay)
                self.assertEqual(answer, (as_ratios(fractions(stayed)), as_ratio(together)))

    def test_small_ones(self):
        for claims, estate in small_cases(3, 3):
            for rule, stay in itertools.product(RULES, stays_of(len(claims))):
                self.assert_left(rule, claims, estate, stay)

    def test_mixed_ones(self):
        for claims, estate in mixed_cases(every=15):
            for rule, stay in itertools.product(words_for(len(claims)), stays_of(len(claims))):
                self.assert_left(rule, claims, estate, stay)

    def test_all_who_may_stay_of_eight(self):
        claims = fractions("0 5 1/2 7 7 2 11/3 1")
        for estate in fractions("0 5/7 9 157/6"):
            for rule in FOUR_WORDS:
                for size in range(9):
                    for stay in itertools.combinations(range(8), size):
                        self.assert_left(rule, claims, estate, stay)

    def test_three_hundred_figures(self):
        claims = [Fraction(10 ** 299 + 3 * place, 7) for place in range(8)]
        for rule in FOUR_WORDS:
            self.assert_left(rule, claims, Fraction(10 ** 299, 11), [0, 3, 7])


class NotToStay(unittest.TestCase):
    NO_STAYS = (
        (0, [0]), (0, [-1]), (0, [0, 0]), (0, [1]), (1, [0, 0]), (1, [1]), (1, [-1]), (1, [0, 1]), (1, [-1, 0]),
        (3, [1, 0]), (3, [0, 2, 1]), (3, [2, 1, 0]), (3, [0, 1, 1]), (3, [2, 2]), (3, [0, 0, 1, 2]), (3, [0, 1, 2, 3]),
        (3, [3]), (3, [0, 3]), (3, [-1]), (3, [-1, 0]), (3, [-3, -2, -1]), (3, [0, 1, 2, 0]), (3, [10 ** 300]),
        (3, [-10 ** 300]), (3, list(range(1000))), (3, [0] * 1000), (8, [8]), (8, [0, 8]), (8, [7, 6]), (8, [7, 7]),
        (8, [-1, 7]), (8, list(range(9))), (8, list(range(7, -1, -1))),
    )

    def test_alone(self):
        for count, stay in self.NO_STAYS:
            for rule, estate in itertools.product(RULES, ((0, 1), (count, 1))):
                with self.subTest(rule=rule, count=count, stay=stay), self.assertRaises(NoClaimer):
                    left(rule, [(1, 1)] * count, estate, list(stay))

    def test_all_short_lists(self):
        for count in range(4):
            for length in range(5):
                for stay in itertools.product(range(-1, 4), repeat=length):
                    right = list(stay) == sorted(set(stay) & set(range(count)))
                    if not right:
                        self.assertRaises(NoClaimer, left, "gains", [(1, 1)] * count, (0, 1), list(stay))
                    else:
                        self.assertEqual(left("gains", [(1, 1)] * count, (0, 1), list(stay))[1], (0, 1))

    def test_behind_the_refusals_of_rule_claims_and_estate(self):
        for count, stay in self.NO_STAYS:
            for rule in RULES:
                with self.subTest(rule=rule, count=count, stay=stay):
                    self.assertRaises(TooMany, left, rule, [(1, 1)] * 9, (1, 1), list(stay))
                    self.assertRaises(TooMany, left, rule, [(-1, 1)] * 9, (-1, 1), list(stay))
                    self.assertRaises(NoClaim, left, rule, [(1, 1)] * min(count, 7) + [(-1, 2)], (0, 1), list(stay))
                    self.assertRaises(NoClaim, left, rule, [(-1, 2)], (9, 1), list(stay))
                    self.assertRaises(NoEstate, left, rule, [(1, 1)] * count, (count + 1, 1), list(stay))
                    self.assertRaises(NoEstate, left, rule, [(1, 1)] * count, (-1, 2), list(stay))
            self.assertRaises(NoRule, left, "rule", [(1, 1)] * count, (0, 1), list(stay))
            self.assertRaises(NoRule, left, "rule", [(-1, 1)] * 9, (-1, 1), list(stay))

    def test_right_ones_with_wrong_claims_and_estates(self):
        for rule in RULES:
            for stay in ([], [0], [0, 1]):
                self.assertRaises(TooMany, left, rule, [(1, 1)] * 9, (1, 1), stay)
                self.assertRaises(NoClaim, left, rule, [(1, 1), (-1, 2)], (0, 1), stay)
                self.assertRaises(NoEstate, left, rule, [(1, 1), (1, 2)], (2, 1), stay)


if __name__ == "__main__":
    unittest.main()
