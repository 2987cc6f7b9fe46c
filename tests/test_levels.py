"""The gain level [8] and the loss level [9]: each brings the estate, and no lesser one does."""

import unittest
from fractions import Fraction

from helper import LeanCase, as_ratio, as_ratios, gained, kept, mixed_cases, mixed_claims, small_cases
from leanestate.levels import gain_level, loss_level


def just_below(level, claims):
    # Between a level and the next claim below it what a level brings changes evenly, so one place there tells of all.
    return (max([claim for claim in claims if claim < level] + [Fraction(0)]) + level) / 2


class LevelCase(LeanCase):
    def assert_gain_level(self, claims, estate):
        answer = gain_level(as_ratios(claims), as_ratio(estate))
        self.assert_is_ratio(answer)
        level = Fraction(*answer)
        self.assertGreaterEqual(level, 0)
        self.assertEqual(gained(level, claims), estate, (claims, estate))
        if level > 0:
            self.assertLess(gained(just_below(level, claims), claims), estate, (claims, estate))

    def assert_loss_level(self, claims, estate):
        answer = loss_level(as_ratios(claims), as_ratio(estate))
        self.assert_is_ratio(answer)
        level = Fraction(*answer)
        self.assertGreaterEqual(level, 0)
        self.assertEqual(kept(level, claims), estate, (claims, estate))
        if level > 0:
            self.assertGreater(kept(just_below(level, claims), claims), estate, (claims, estate))


class GainLevel(LevelCase):
    def test_known_ones(self):
        for claims, estate, level in (
            ([], 0, 0), ([0], 0, 0), ([0, 0, 0], 0, 0), ([5], 0, 0), ([5], 2, 2), ([5], 5, 5),
            ([1, 2, 3], 3, 1), ([1, 2, 3], 4, "3/2"), ([1, 2, 3], 5, 2), ([1, 2, 3], "11/2", "5/2"),
            ([3, 1, 2], 6, 3), ([2, 2, 2], 1, "1/3"), ([2, 2, 2], 6, 2), ([0, 0, 7], 7, 7), ([0, 0, 7], 3, 3),
            (["1/2", "1/3"], "2/3", "1/3"), (["1/2", "1/3"], "3/4", "5/12"), ([100, 200, 300], 100, "100/3"),
        ):
            with self.subTest(claims=claims, estate=estate):
                self.assertEqual(gain_level(as_ratios(claims), as_ratio(estate)), as_ratio(level))

    def test_small_ones(self):
        for claims, estate in small_cases():
            self.assert_gain_level(claims, estate)

    def test_mixed_ones(self):
        for claims, estate in mixed_cases():
            self.assert_gain_level(claims, estate)

    def test_at_both_ends(self):
        for claims in mixed_claims():
            listed = as_ratios(claims)
            self.assertEqual(gain_level(listed, (0, 1)), (0, 1))
            self.assertEqual(gain_level(listed, as_ratio(sum(claims))), as_ratio(max(claims, default=0)))

    def test_just_at_each_claim(self):
        for claims in mixed_claims():
            for claim in claims:
                self.assertEqual(gain_level(as_ratios(claims), as_ratio(gained(claim, claims))), as_ratio(claim))


class LossLevel(LevelCase):
    def test_known_ones(self):
        for claims, estate, level in (
            ([], 0, 0), ([0], 0, 0), ([0, 0, 0], 0, 0), ([5], 0, 5), ([5], 2, 3), ([5], 5, 0),
            ([1, 2, 3], 6, 0), ([1, 2, 3], 3, 1), ([1, 2, 3], 2, "3/2"), ([1, 2, 3], 1, 2), ([3, 1, 2], "1/2", "5/2"),
            ([1, 2, 3], 0, 3), ([2, 2, 2], 5, "1/3"), ([2, 2, 2], 0, 2), ([0, 0, 7], 0, 7), ([0, 0, 7], 3, 4),
            (["1/2", "1/3"], "1/6", "1/3"), (["1/2", "1/3"], "1/12", "5/12"), ([100, 200, 300], 300, 100),
        ):
            with self.subTest(claims=claims, estate=estate):
                self.assertEqual(loss_level(as_ratios(claims), as_ratio(estate)), as_ratio(level))

    def test_small_ones(self):
        for claims, estate in small_cases():
            self.assert_loss_level(claims, estate)

    def test_mixed_ones(self):
        for claims, estate in mixed_cases():
            self.assert_loss_level(claims, estate)

    def test_at_both_ends(self):
        for claims in mixed_claims():
            listed = as_ratios(claims)
            self.assertEqual(loss_level(listed, as_ratio(sum(claims))), (0, 1))
            self.assertEqual(loss_level(listed, (0, 1)), as_ratio(max(claims, default=0)))

    def test_just_at_each_claim(self):
        for claims in mixed_claims():
            for claim in claims:
                self.assertEqual(loss_level(as_ratios(claims), as_ratio(kept(claim, claims))), as_ratio(claim))


class ThreeHundredFigures(LevelCase):
    def test_both(self):
        great = 10 ** 299
        claims = [Fraction(great + place, great + 7 * place + 1) for place in range(8)]
        for estate in (Fraction(1, great), Fraction(great, great + 3), Fraction(4), Fraction(great * 9, great + 9) - 2):
            self.assert_gain_level(claims, estate)
            self.assert_loss_level(claims, estate)


if __name__ == "__main__":
    unittest.main()
