"""An estate shared by steps [24], and a claim parted in two [25]."""

import unittest
from fractions import Fraction

from helper import BY_WORD, LeanCase, asked, many_claims, some_estates

THREE_WORDS = ("shares", "gains", "losses")
# A claim that is parted is one claim more.
MOST_AHEAD = 7


class BySteps(LeanCase):
    def each_case(self):
        for claims in many_claims():
            estates = some_estates(claims, 9)
            for place, greater in enumerate(estates):
                for lesser in estates[:place + 1]:
                    for word in THREE_WORDS:
                        yield word, claims, lesser, greater

    def test_a_lesser_one_first_and_then_the_rest(self):
        for word, claims, lesser, greater in self.each_case():
            first = asked(BY_WORD[word], claims, lesser)
            rest = [claim - part for claim, part in zip(claims, first)]
            then = asked(BY_WORD[word], rest, greater - lesser)
            both = [one + other for one, other in zip(first, then)]
            self.assertEqual(both, asked(BY_WORD[word], claims, greater), (word, claims, lesser, greater))

    def test_by_what_a_greater_one_brought(self):
        for word, claims, lesser, greater in self.each_case():
            brought = asked(BY_WORD[word], claims, greater)
            self.assertEqual(
                asked(BY_WORD[word], brought, lesser), asked(BY_WORD[word], claims, lesser),
                (word, claims, lesser, greater),
            )


class Parted(LeanCase):
    def each_case(self):
        for claims in many_claims(MOST_AHEAD):
            for claimer, claim in enumerate(claims):
                for part in {Fraction(0), claim / 3, claim / 2, claim - claim / 1000, claim}:
                    for estate in some_estates(claims, 9):
                        yield claims, claimer, part, estate

    def parted(self, word, claims, claimer, part, estate):
        """Told are what both parts get together and what the others get, and the same ahead of the parting."""
        before = asked(BY_WORD[word], claims, estate)
        others = before[:claimer] + before[claimer + 1:]
        claims = claims[:claimer] + [part] + claims[claimer + 1:] + [claims[claimer] - part]
        after = asked(BY_WORD[word], claims, estate)
        return after[claimer] + after[-1], after[:claimer] + after[claimer + 1:-1], before[claimer], others

    def test_in_shares(self):
        for case in self.each_case():
            both, others, one, before = self.parted("shares", *case)
            self.assertEqual((both, others), (one, before), case)

    def test_by_gains(self):
        for case in self.each_case():
            both, others, one, before = self.parted("gains", *case)
            self.assertGreaterEqual(both, one, case)
            self.assertTrue(all(now <= then for now, then in zip(others, before, strict=True)), case)

    def test_by_losses(self):
        for case in self.each_case():
            both, others, one, before = self.parted("losses", *case)
            self.assertLessEqual(both, one, case)
            self.assertTrue(all(now >= then for now, then in zip(others, before, strict=True)), case)


if __name__ == "__main__":
    unittest.main()
