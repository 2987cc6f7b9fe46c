"""Groups: their worth [28], and what each adds in an order [29]."""

import itertools
import unittest
from fractions import Fraction

from helper import (
    BY_WORD, LeanCase, as_ratio, as_ratios, asked, estates_of, fractions, mixed_cases, mixed_claims, orders_drawn,
    small_cases, words_for,
)
from leanestate.errors import NoClaim, NoEstate, NoGroup, TooMany
from leanestate.groups import added, worth
from leanestate.turns import by_turns, taken


def members_of(group, count):
    """Bits are read off the number as written in twos, the last sign being claimer 0's."""
    return [claimer for claimer, sign in enumerate(reversed(format(group, "b").zfill(count))) if sign == "1"]


def worth_of(claims, estate, members):
    others = [claim for claimer, claim in enumerate(claims) if claimer not in members]
    return max(estate - sum(others, Fraction(0)), Fraction(0))


class Worth(LeanCase):
    def test_known_ones(self):
        for claims, estate, group, wanted in (
            ("1 2 3", "4", 0, "0"), ("1 2 3", "4", 1, "0"), ("1 2 3", "4", 2, "0"), ("1 2 3", "4", 3, "1"),
            ("1 2 3", "4", 4, "1"), ("1 2 3", "4", 5, "2"), ("1 2 3", "4", 6, "3"), ("1 2 3", "4", 7, "4"),
            ("", "0", 0, "0"), ("5", "2", 0, "0"), ("5", "2", 1, "2"), ("1/2 1/3", "2/3", 1, "1/3"),
            ("1/2 1/3", "2/3", 2, "1/6"), ("1 1 1 1 1 1 1 9", "9", 128, "2"), ("9 1 1 1 1 1 1 1", "9", 1, "2"),
        ):
            with self.subTest(claims=claims, estate=estate, group=group):
                answer = worth(as_ratios(fractions(claims)), as_ratio(estate), group)
                self.assertEqual(answer, as_ratio(wanted))

    def assert_worth(self, claims, estate, group):
        answer = worth(as_ratios(claims), as_ratio(estate), group)
        self.assert_is_ratio(answer)
        wanted = worth_of(claims, estate, members_of(group, len(claims)))
        self.assertEqual(answer, as_ratio(wanted), (claims, estate, group))

    def test_small_ones(self):
        for claims, estate in small_cases(3, 3):
            for group in range(2 ** len(claims)):
                self.assert_worth(claims, estate, group)

    def test_mixed_ones(self):
        for claims, estate in mixed_cases(every=12):
            for group in range(2 ** len(claims)) if len(claims) < 7 else range(0, 2 ** len(claims), 5):
                self.assert_worth(claims, estate, group)

    def test_nobody_and_all(self):
        for claims in mixed_claims():
            for estate in estates_of(claims):
                self.assertEqual(worth(as_ratios(claims), as_ratio(estate), 0), (0, 1))
                self.assertEqual(worth(as_ratios(claims), as_ratio(estate), 2 ** len(claims) - 1), as_ratio(estate))

    def test_by_the_five_rules_each_group_gets_it_or_more(self):
        for claims, estate in itertools.chain(small_cases(2, 3), mixed_cases(every=25)):
            told = [worth(as_ratios(claims), as_ratio(estate), group) for group in range(2 ** len(claims))]
            for word in words_for(len(claims)):
                parts = asked(BY_WORD[word], claims, estate)
                for group, one in enumerate(told):
                    together = sum(parts[claimer] for claimer in members_of(group, len(claims)))
                    self.assertGreaterEqual(together, Fraction(*one), (word, claims, estate, group))

    def test_no_group(self):
        for count in range(9):
            for group in (-1, -2, -2 ** count, 2 ** count, 2 ** count + 1, 2 ** (count + 1), 10 ** 299, -10 ** 299):
                for estate in ((0, 1), (count, 1)):
                    with self.subTest(count=count, group=group), self.assertRaises(NoGroup):
                        worth([(1, 1)] * count, estate, group)

    def test_no_group_behind_claims_and_estate(self):
        for group in (-1, 0, 1, 3, 4, 255, 256, 511, 512, 10 ** 299):
            with self.subTest(group=group):
                self.assertRaises(TooMany, worth, [(1, 1)] * 9, (1, 1), group)
                self.assertRaises(TooMany, worth, [(-1, 1)] * 9, (-1, 1), group)
                self.assertRaises(NoClaim, worth, [(1, 1), (-1, 2)], (0, 1), group)
                self.assertRaises(NoClaim, worth, [(1, 1), (-1, 2)], (9, 1), group)
                self.assertRaises(NoEstate, worth, [(1, 1), (1, 2)], (2, 1), group)
                self.assertRaises(NoEstate, worth, [(1, 1), (1, 2)], (-1, 2), group)
                self.assertRaises(NoEstate, worth, [], (1, 2), group)


def wanted_added(claims, estate, order):
    parts = {}
    for place, claimer in enumerate(order):
        with_it = worth_of(claims, estate, order[:place + 1])
        parts[claimer] = with_it - worth_of(claims, estate, order[:place])
    return [parts[claimer] for claimer in range(len(claims))]


class Added(LeanCase):
    def assert_added(self, claims, estate, order):
        answer = added(as_ratios(claims), as_ratio(estate), list(order))
        self.assertEqual(answer, as_ratios(wanted_added(claims, estate, order)), (claims, estate, order))
        self.assert_is_sharing(answer, claims, estate)
        turned_round = taken(as_ratios(claims), as_ratio(estate), list(reversed(order)))
        self.assertEqual(answer, turned_round, (claims, estate, order))

    def test_known_ones(self):
        for claims, estate, order, parts in (
            ("", "0", [], ""), ("5", "3", [0], "3"), ("1 2 3", "4", [0, 1, 2], "0 1 3"),
            ("1 2 3", "4", [2, 1, 0], "1 2 1"), ("1 2 3", "4", [1, 2, 0], "1 0 3"), ("1 2 3", "4", [2, 0, 1], "1 2 1"),
            ("1 2 3", "6", [1, 0, 2], "1 2 3"), ("1 2 3", "0", [1, 0, 2], "0 0 0"),
            ("1/2 1/3", "2/3", [1, 0], "1/2 1/6"),
        ):
            with self.subTest(claims=claims, estate=estate, order=order):
                answer = added(as_ratios(fractions(claims)), as_ratio(estate), order)
                self.assertEqual(answer, as_ratios(fractions(parts)))

    def test_small_ones_in_all_orders(self):
        for claims, estate in small_cases(2, 3):
            for order in itertools.permutations(range(len(claims))):
                self.assert_added(claims, estate, order)

    def test_none_to_eight_claimers(self):
        for claims in mixed_claims():
            for order in orders_drawn(len(claims), 3):
                reached = itertools.accumulate([claims[claimer] for claimer in order])
                for estate in [Fraction(0), sum(claims, Fraction(0)) / 3, *reached]:
                    self.assert_added(claims, estate, order)

    def test_turns_are_the_average(self):
        for claims, estate in mixed_cases(4, every=6):
            orders = list(itertools.permutations(range(len(claims))))
            told = [added(as_ratios(claims), as_ratio(estate), list(order)) for order in orders]
            sums = [sum(Fraction(*parts[claimer]) for parts in told) for claimer in range(len(claims))]
            average = as_ratios([one / len(orders) for one in sums])
            self.assertEqual(by_turns(as_ratios(claims), as_ratio(estate)), average, (claims, estate))


if __name__ == "__main__":
    unittest.main()
