"""What each takes in an order, and turns, the average over all orders [15]."""

import itertools
import math
import unittest
from fractions import Fraction

from helper import (
    LeanCase, as_ratio, as_ratios, estates_of, fractions, mixed_cases, mixed_claims, orders_drawn, small_cases,
    small_claims,
)
from leanestate.turns import by_turns, taken


def wanted_taken(claims, estate, order):
    parts = {}
    left = estate
    for claimer in order:
        parts[claimer] = min(claims[claimer], left)
        left -= parts[claimer]
    return [parts[claimer] for claimer in range(len(claims))]


def wanted_by_turns(claims, estate):
    sums = [Fraction(0) for claim in claims]
    for order in itertools.permutations(range(len(claims))):
        for claimer, part in enumerate(wanted_taken(claims, estate, order)):
            sums[claimer] += part
    return [summed / math.factorial(len(claims)) for summed in sums]


class Taken(LeanCase):
    def assert_taken(self, claims, estate, order):
        answer = taken(as_ratios(claims), as_ratio(estate), list(order))
        self.assertEqual(answer, as_ratios(wanted_taken(claims, estate, order)), (claims, estate, order))
        self.assert_is_sharing(answer, claims, estate)

    def test_known_ones(self):
        for claims, estate, order, parts in (
            ("", "0", [], ""), ("0", "0", [0], "0"), ("5", "3", [0], "3"), ("5", "5", [0], "5"),
            ("1 2 3", "3", [0, 1, 2], "1 2 0"), ("1 2 3", "3", [2, 1, 0], "0 0 3"), ("1 2 3", "4", [1, 2, 0], "0 2 2"),
            ("1 2 3", "4", [2, 0, 1], "1 0 3"), ("1 2 3", "6", [1, 0, 2], "1 2 3"), ("1 2 3", "0", [1, 0, 2], "0 0 0"),
            ("0 2 0", "1", [0, 2, 1], "0 1 0"), ("1/2 1/3", "2/3", [1, 0], "1/3 1/3"),
        ):
            with self.subTest(claims=claims, estate=estate, order=order):
                answer = taken(as_ratios(claims.split()), as_ratio(estate), order)
                self.assertEqual(answer, as_ratios(parts.split()))

    def test_small_ones_in_all_orders(self):
        for claims, estate in small_cases(2, 4):
            for order in itertools.permutations(range(len(claims))):
                self.assert_taken(claims, estate, order)

    def test_none_to_eight_claimers(self):
        for claims in mixed_claims():
            for order in orders_drawn(len(claims), 3):
                reached = itertools.accumulate([claims[claimer] for claimer in order])
                for estate in [Fraction(0), sum(claims, Fraction(0)) / 3, *reached]:
                    self.assert_taken(claims, estate, order)

    def test_an_order_may_be_any_list_with_each_number_once(self):
        for length in range(6):
            for order in itertools.permutations(range(length)):
                self.assertEqual(taken([(1, 1)] * length, (length, 1), list(order)), [(1, 1)] * length)


class ByTurns(LeanCase):
    def test_known_ones(self):
        for claims, estate, parts in (
            ("", "0", ""), ("0", "0", "0"), ("0 0 0", "0", "0 0 0"), ("5", "2", "2"), ("5", "5", "5"),
            ("1 2", "2", "1/2 3/2"), ("100 200 300", "100", "100/3 100/3 100/3"),
            ("100 200 300", "200", "100/3 250/3 250/3"), ("100 200 300", "300", "50 100 150"),
            ("100 200 300", "400", "200/3 350/3 650/3"), ("1 2 3", "6", "1 2 3"), ("3 0 1", "2", "3/2 0 1/2"),
        ):
            with self.subTest(claims=claims, estate=estate):
                self.assert_shared(by_turns, fractions(claims), Fraction(estate), fractions(parts))

    def test_small_ones(self):
        for claims, estate in small_cases(2, 4):
            self.assert_shared(by_turns, claims, estate, wanted_by_turns(claims, estate))

    def test_none_to_five_claimers(self):
        for claims, estate in mixed_cases(4):
            self.assert_shared(by_turns, claims, estate, wanted_by_turns(claims, estate))
        for claims in mixed_claims(5)[-11:]:
            for estate in estates_of(claims)[::5]:
                self.assert_shared(by_turns, claims, estate, wanted_by_turns(claims, estate))

    def test_six_claimers(self):
        for claims, count in (
            ("1 2 3 4 5 6", 9), ("0 0 1 1 5 5", 6), ("1/2 1/3 1/4 1/5 1/6 1/7", 5), ("2 2 2 2 2 2", 5),
            ("0 0 0 0 0 9", 3),
        ):
            claims = fractions(claims)
            for step in range(count + 1):
                estate = sum(claims) * step / count
                self.assert_shared(by_turns, claims, estate, wanted_by_turns(claims, estate))

    def test_six_claimers_of_many_figures(self):
        for figures in (30, 100):
            great = 10 ** figures
            claims = [Fraction(great + 9 * place, great - 7 * place) for place in range(6)]
            for estate in (Fraction(great - 1, great), Fraction(7, 3), Fraction(5)):
                self.assert_shared(by_turns, claims, estate, wanted_by_turns(claims, estate))

    def test_nothing_and_all(self):
        for claims in mixed_claims(6):
            listed = as_ratios(claims)
            self.assertEqual(by_turns(listed, (0, 1)), [(0, 1) for claim in claims])
            self.assertEqual(by_turns(listed, as_ratio(sum(claims))), listed)

    def test_the_average_of_what_is_taken(self):
        for claims in small_claims(2, 3):
            for estate in estates_of(claims):
                listed = as_ratios(claims)
                orders = [list(order) for order in itertools.permutations(range(len(claims)))]
                told = [taken(listed, as_ratio(estate), order) for order in orders]
                sums = [sum(Fraction(*parts[claimer]) for parts in told) for claimer in range(len(claims))]
                self.assertEqual(by_turns(listed, as_ratio(estate)), as_ratios([one / len(orders) for one in sums]))


if __name__ == "__main__":
    unittest.main()
