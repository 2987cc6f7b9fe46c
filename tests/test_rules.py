"""Four rules: in shares [11], by gains [12], by losses [13], by halves [14]; what a sharing is [10]."""

import unittest
from fractions import Fraction

from helper import LeanCase, as_ratio, as_ratios, asked, fractions, mixed_cases, mixed_claims, small_cases
from leanestate.levels import gain_level, loss_level
from leanestate.rules import by_gains, by_halves, by_losses, in_shares

FOUR = (in_shares, by_gains, by_losses, by_halves)


def wanted_in_shares(claims, estate):
    whole = sum(claims)
    return [claim * estate / whole if whole else Fraction(0) for claim in claims]


def wanted_by_gains(claims, estate):
    """Round by round all who are not yet met get alike, as much as meets the next of them."""
    parts = [Fraction(0) for claim in claims]
    left = estate
    while left > 0:
        unmet = [place for place, claim in enumerate(claims) if parts[place] < claim]
        step = min([left / len(unmet)] + [claims[place] - parts[place] for place in unmet])
        for place in unmet:
            parts[place] += step
        left -= step * len(unmet)
    return parts


def wanted_by_losses(claims, estate):
    """Round by round all who still have something give up alike, as much as leaves the next of them nothing."""
    parts = list(claims)
    above = sum(claims, Fraction(0)) - estate
    while above > 0:
        having = [place for place, part in enumerate(parts) if part > 0]
        step = min([above / len(having)] + [parts[place] for place in having])
        for place in having:
            parts[place] -= step
        above -= step * len(having)
    return parts


def wanted_by_halves(claims, estate):
    whole = sum(claims, Fraction(0))
    halves = [claim / 2 for claim in claims]
    if estate <= whole / 2:
        return wanted_by_gains(halves, estate)
    return [claim - part for claim, part in zip(claims, wanted_by_gains(halves, whole - estate))]


class RuleCase(LeanCase):
    def assert_known(self, rule, rows):
        for claims, estate, parts in rows:
            with self.subTest(claims=claims, estate=estate):
                self.assert_shared(rule, fractions(claims), Fraction(estate), fractions(parts))

    def assert_as_wanted(self, rule, wanted):
        for claims, estate in small_cases():
            self.assert_shared(rule, claims, estate, wanted(claims, estate))
        for claims, estate in mixed_cases():
            self.assert_shared(rule, claims, estate, wanted(claims, estate))


class InShares(RuleCase):
    def test_known_ones(self):
        self.assert_known(in_shares, (
            ("", "0", ""), ("0", "0", "0"), ("0 0 0", "0", "0 0 0"), ("5", "2", "2"), ("5", "5", "5"),
            ("1 2 3", "3", "1/2 1 3/2"), ("1 2 3", "6", "1 2 3"), ("1 2 3", "0", "0 0 0"), ("3 0 1", "2", "3/2 0 1/2"),
            ("1/2 1/3", "1/2", "3/10 1/5"), ("100 200 300", "100", "50/3 100/3 50"),
        ))

    def test_many(self):
        self.assert_as_wanted(in_shares, wanted_in_shares)


class ByGains(RuleCase):
    def test_known_ones(self):
        self.assert_known(by_gains, (
            ("", "0", ""), ("0", "0", "0"), ("0 0 0", "0", "0 0 0"), ("5", "2", "2"), ("5", "5", "5"),
            ("1 2 3", "3", "1 1 1"), ("1 2 3", "4", "1 3/2 3/2"), ("1 2 3", "6", "1 2 3"), ("1 2 3", "0", "0 0 0"),
            ("3 0 1", "2", "1 0 1"), ("3 0 1", "5/2", "3/2 0 1"), ("100 200 300", "300", "100 100 100"),
        ))

    def test_many(self):
        self.assert_as_wanted(by_gains, wanted_by_gains)

    def test_the_lesser_of_claim_and_level(self):
        for claims, estate in mixed_cases():
            level = asked(gain_level, claims, estate)
            self.assertEqual(asked(by_gains, claims, estate), [min(claim, level) for claim in claims])


class ByLosses(RuleCase):
    def test_known_ones(self):
        self.assert_known(by_losses, (
            ("", "0", ""), ("0", "0", "0"), ("0 0 0", "0", "0 0 0"), ("5", "2", "2"), ("5", "5", "5"),
            ("1 2 3", "3", "0 1 2"), ("1 2 3", "2", "0 1/2 3/2"), ("1 2 3", "6", "1 2 3"), ("1 2 3", "0", "0 0 0"),
            ("3 0 1", "2", "2 0 0"), ("3 0 1", "5/2", "9/4 0 1/4"), ("100 200 300", "300", "0 100 200"),
        ))

    def test_many(self):
        self.assert_as_wanted(by_losses, wanted_by_losses)

    def test_the_claim_less_the_level_or_nought(self):
        for claims, estate in mixed_cases():
            level = asked(loss_level, claims, estate)
            self.assertEqual(asked(by_losses, claims, estate), [max(claim - level, 0) for claim in claims])


class ByHalves(RuleCase):
    def test_known_ones(self):
        self.assert_known(by_halves, (
            ("", "0", ""), ("0", "0", "0"), ("0 0 0", "0", "0 0 0"), ("5", "2", "2"), ("5", "5", "5"),
            ("100 200 300", "100", "100/3 100/3 100/3"), ("100 200 300", "200", "50 75 75"),
            ("100 200 300", "300", "50 100 150"), ("100 200 300", "400", "50 125 225"),
            ("100 200 300", "500", "200/3 500/3 800/3"), ("100 200 300", "600", "100 200 300"),
            ("1 1/2", "1", "3/4 1/4"), ("1 2", "0", "0 0"), ("3 0 1", "2", "3/2 0 1/2"), ("3 0 1", "3", "5/2 0 1/2"),
        ))

    def test_many(self):
        self.assert_as_wanted(by_halves, wanted_by_halves)

    def test_at_half_of_the_total_each_gets_half(self):
        for claims in mixed_claims():
            self.assertEqual(asked(by_halves, claims, sum(claims) / Fraction(2)), [claim / 2 for claim in claims])

    def test_just_below_and_above_half_the_greatest_claims_alone_feel_it(self):
        claims = fractions("4 1 4 0")
        little = Fraction(1, 10 ** 30)
        for change in (little, -little):
            wanted = [2 + change / 2, Fraction(1, 2), 2 + change / 2, Fraction(0)]
            self.assert_shared(by_halves, claims, Fraction(9, 2) + change, wanted)


class AllFour(RuleCase):
    def test_nothing_and_all(self):
        for claims in mixed_claims():
            for rule in FOUR:
                self.assertEqual(asked(rule, claims, 0), [0 for claim in claims])
                self.assertEqual(asked(rule, claims, sum(claims)), claims)

    def test_a_total_of_nought(self):
        for length in range(9):
            for rule in FOUR:
                self.assertEqual(rule([(0, 1)] * length, (0, 1)), [(0, 1)] * length)

    def test_claims_in_another_order(self):
        for claims, estate in mixed_cases():
            for rule in FOUR:
                self.assertEqual(asked(rule, claims[::-1], estate), asked(rule, claims, estate)[::-1])

    def test_three_hundred_figures(self):
        great = 10 ** 299
        claims = [Fraction(great + 3 * place, 7) for place in range(8)]
        estate = Fraction(3 * great + 1, 11)
        for rule, wanted in zip(FOUR, (wanted_in_shares, wanted_by_gains, wanted_by_losses, wanted_by_halves)):
            self.assert_shared(rule, claims, estate, wanted(claims, estate))
            self.assertEqual(rule(as_ratios(claims), as_ratio(estate)), as_ratios(wanted(claims, estate)))


if __name__ == "__main__":
    unittest.main()
