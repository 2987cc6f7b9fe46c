"""What holds of each of the five rules, asked by its word [3, 17]."""

import itertools
import unittest
from fractions import Fraction

from helper import BY_WORD, LeanCase, as_ratio, as_ratios, asked, estates_of, many_claims, some_estates, words_for

MORE = (Fraction(1, 3), Fraction(1), Fraction(10))
NEW = (Fraction(0), Fraction(1, 2), Fraction(2), Fraction(20))
MOST = 8


def rules_for(count):
    return {word: BY_WORD[word] for word in words_for(count)}


class FiveRules(LeanCase):
    def each_case(self):
        for claims in many_claims():
            for estate in estates_of(claims):
                for name, rule in rules_for(len(claims)).items():
                    yield name, rule, claims, estate

    def test_it_comes_to_the_estate_within_the_claims(self):
        for name, rule, claims, estate in self.each_case():
            self.assert_is_sharing(rule(as_ratios(claims), as_ratio(estate)), claims, estate)

    def test_like_and_greater_claims(self):
        for name, rule, claims, estate in self.each_case():
            parts = asked(rule, claims, estate)
            for one, other in itertools.permutations(range(len(claims)), 2):
                if claims[one] == claims[other]:
                    self.assertEqual(parts[one], parts[other], (name, claims, estate))
                if claims[one] > claims[other]:
                    self.assertGreaterEqual(parts[one], parts[other], (name, claims, estate))
                    self.assertGreaterEqual(
                        claims[one] - parts[one], claims[other] - parts[other], (name, claims, estate)
                    )

    def test_a_greater_estate(self):
        for claims in many_claims():
            for name, rule in rules_for(len(claims)).items():
                told = [asked(rule, claims, estate) for estate in estates_of(claims)]
                for lesser, greater in itertools.pairwise(told):
                    self.assertTrue(all(one <= other for one, other in zip(lesser, greater)), (name, claims))

    def test_a_greater_claim(self):
        for claims in many_claims():
            for estate in some_estates(claims, 4):
                for name, rule in rules_for(len(claims)).items():
                    self.look_at_greater_claims(name, rule, claims, estate)

    def look_at_greater_claims(self, name, rule, claims, estate):
        before = asked(rule, claims, estate)
        for claimer, more in itertools.product(range(len(claims)), MORE):
            grown = list(claims)
            grown[claimer] += more
            after = asked(rule, grown, estate)
            self.assertGreaterEqual(after[claimer], before[claimer], (name, claims, estate))
            for other in range(len(claims)):
                if other != claimer:
                    self.assertLessEqual(after[other], before[other], (name, claims, estate))

    def test_one_claimer_more(self):
        for claims in many_claims():
            if len(claims) == MOST:
                continue
            for estate, new in itertools.product(some_estates(claims, 4), NEW):
                for name, rule in rules_for(len(claims) + 1).items():
                    before = asked(rule, claims, estate)
                    after = asked(rule, claims + [new], estate)
                    self.assertEqual(len(after), len(before) + 1)
                    self.assertTrue(all(one >= other for one, other in zip(before, after)), (name, claims, estate))


if __name__ == "__main__":
    unittest.main()
