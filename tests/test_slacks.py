"""The slacks of a sharing [30]; of sharings of one estate the one by halves has the greatest list of them [3, 31]."""

import itertools
import unittest
from fractions import Fraction

from helper import (
    BY_WORD, LeanCase, as_ratio, as_ratios, asked, changed_in_two, fractions, mixed_cases, small_cases, small_sharings,
    words_for,
)
from leanestate.groups import slacks


def wanted_slacks(claims, parts):
    """What the members of each group get above what the others leave it of the estate, from the least on."""
    found = []
    whole = sum(claims, Fraction(0))
    estate = sum(parts, Fraction(0))
    for size in range(1, len(claims)):
        for group in itertools.combinations(range(len(claims)), size):
            others = whole - sum(claims[claimer] for claimer in group)
            found.append(sum(parts[claimer] for claimer in group) - max(estate - others, 0))
    return sorted(found)


class Slacks(LeanCase):
    def assert_slacks(self, claims, parts):
        answer = slacks(as_ratios(claims), as_ratios(parts))
        self.assertIs(type(answer), list)
        for one in answer:
            self.assert_is_ratio(one)
        self.assertEqual(answer, as_ratios(wanted_slacks(claims, parts)), (claims, parts))

    def test_known_ones(self):
        for claims, parts, wanted in (
            ("", "", ""), ("5", "2", ""), ("0", "0", ""), ("1 2", "1/2 3/2", "1/2 1/2"), ("1 2", "1 1", "0 1"),
            ("1 2", "0 0", "0 0"), ("1 2", "1 2", "0 0"), ("1 2 3", "1 2 1", "0 0 0 1 2 2"),
            ("1 2 3", "1/2 5/4 9/4", "1/2 1/2 3/4 3/4 5/4 5/4"), ("1/2 1/3", "1/3 1/3", "0 1/6"),
            ("1 2 3", "1/3 1/2 1/5", "1/5 1/3 1/2 8/15 2/3 5/6"),
        ):
            with self.subTest(claims=claims, parts=parts):
                answer = slacks(as_ratios(fractions(claims)), as_ratios(fractions(parts)))
                self.assertEqual(answer, as_ratios(fractions(wanted)))

    def test_none_and_one_claimer(self):
        self.assertEqual(slacks([], []), [])
        for claim, part in (("0", "0"), ("1", "0"), ("1", "1"), ("7/3", "2/5")):
            self.assertEqual(slacks([as_ratio(claim)], [as_ratio(part)]), [])

    def test_small_ones(self):
        for claims, parts in small_sharings(3, 3, 2):
            self.assert_slacks(claims, parts)

    def test_mixed_ones(self):
        for claims, estate in mixed_cases(every=15):
            for word in words_for(len(claims)):
                self.assert_slacks(claims, asked(BY_WORD[word], claims, estate))

    def test_there_is_one_for_each_group_but_two(self):
        for count in range(1, 9):
            self.assertEqual(len(slacks([(3, 1)] * count, [(1, 1)] * count)), 2 ** count - 2)

    def test_by_the_five_rules_none_is_below_nought(self):
        for claims, estate in small_cases(3, 3):
            for word in words_for(len(claims)):
                told = slacks(as_ratios(claims), BY_WORD[word](as_ratios(claims), as_ratio(estate)))
                self.assertTrue(all(top >= 0 for top, bottom in told), (word, claims, estate))

    def test_three_hundred_figures(self):
        claims = [Fraction(10 ** 299 + 3 * place, 10 ** 299 - place) for place in range(8)]
        self.assert_slacks(claims, [claim / (2 + place) for place, claim in enumerate(claims)])


class GreatestSlacks(LeanCase):
    def asked_slacks(self, claims, parts):
        return [Fraction(*one) for one in slacks(as_ratios(claims), as_ratios(parts))]

    def assert_lesser_list(self, claims, parts):
        by_halves = asked(BY_WORD["halves"], claims, sum(parts, Fraction(0)))
        if parts != by_halves:
            self.assertLess(self.asked_slacks(claims, parts), self.asked_slacks(claims, by_halves), (claims, parts))

    def test_all_small_sharings(self):
        for claims, parts in small_sharings(3, 3, 2):
            self.assert_lesser_list(claims, parts)

    def test_all_small_sharings_among_four(self):
        for claims, parts in small_sharings(2, 4, 1):
            self.assert_lesser_list(claims, parts)

    def test_sharings_changed_in_two_parts(self):
        for claims, estate in mixed_cases(5, every=9):
            for changed in changed_in_two(claims, asked(BY_WORD["halves"], claims, estate)):
                self.assert_lesser_list(claims, changed)

    def test_sharings_by_the_other_rules(self):
        for claims, estate in mixed_cases(6, every=5):
            for word in ("shares", "gains", "losses", "turns"):
                self.assert_lesser_list(claims, asked(BY_WORD[word], claims, estate))

    def test_eight_claimers(self):
        for claims, estate in mixed_cases(every=20):
            if len(claims) == 8:
                for word in ("shares", "gains", "losses"):
                    self.assert_lesser_list(claims, asked(BY_WORD[word], claims, estate))


if __name__ == "__main__":
    unittest.main()
