"""Of all sharings that come to one estate the one by halves has the greatest list of slacks [31]."""

import itertools
import unittest
from fractions import Fraction

from helper import BY_WORD, LeanCase, asked, changed_in_two, mixed_cases, small_sharings


def slacks_of(claims, parts):
    """What the members of each group get above what the others leave it of the estate, from the least on."""
    found = []
    whole = sum(claims, Fraction(0))
    estate = sum(parts, Fraction(0))
    for size in range(1, len(claims)):
        for group in itertools.combinations(range(len(claims)), size):
            others = whole - sum(claims[claimer] for claimer in group)
            found.append(sum(parts[claimer] for claimer in group) - max(estate - others, 0))
    return sorted(found)


class LeastSlack(LeanCase):
    def assert_lesser_list(self, claims, parts):
        by_halves = asked(BY_WORD["halves"], claims, sum(parts, Fraction(0)))
        if parts != by_halves:
            self.assertLess(slacks_of(claims, parts), slacks_of(claims, by_halves), (claims, parts))

    def test_all_small_sharings(self):
        for claims, parts in small_sharings(3, 3, 2):
            self.assert_lesser_list(claims, parts)

    def test_sharings_changed_in_two_parts(self):
        for claims, estate in mixed_cases(5, every=9):
            for changed in changed_in_two(claims, asked(BY_WORD["halves"], claims, estate)):
                self.assert_lesser_list(claims, changed)

    def test_sharings_by_the_other_rules(self):
        for claims, estate in mixed_cases(6, every=5):
            for word in ("shares", "gains", "losses", "turns"):
                self.assert_lesser_list(claims, asked(BY_WORD[word], claims, estate))

    def test_eight_claimers(self):
        for claims, estate in mixed_cases(every=20):
            if len(claims) == 8:
                for word in ("shares", "gains", "losses"):
                    self.assert_lesser_list(claims, asked(BY_WORD[word], claims, estate))


if __name__ == "__main__":
    unittest.main()
