"""Rules turned about [3, 22], claims that are cut, and least rights [23]."""

import itertools
import unittest
from fractions import Fraction

from helper import (
    BY_WORD, RULES, LeanCase, as_ratio, as_ratios, asked, estates_of, fractions, many_claims, mixed_cases, small_cases,
    words_for,
)
from leanestate.turned import cut_claims, least_rights, turned

TURNED = {"shares": "shares", "gains": "losses", "losses": "gains", "halves": "halves", "turns": "turns"}


def every_case():
    for claims in many_claims():
        for estate in estates_of(claims):
            yield claims, estate


def wanted_rights(claims, estate):
    whole = sum(claims, Fraction(0))
    return [max(estate - (whole - claim), Fraction(0)) for claim in claims]


class TurnedAbout(LeanCase):
    def test_known_ones(self):
        for word, claims, estate, parts in (
            ("gains", "1 2 3", "4", "1/3 4/3 7/3"), ("losses", "1 2 3", "4", "1 3/2 3/2"),
            ("shares", "1 2 3", "4", "2/3 4/3 2"), ("halves", "1 2 3", "4", "1/2 5/4 9/4"),
            ("turns", "1 2 3", "4", "2/3 7/6 13/6"), ("gains", "1 2 3", "2", "0 1/2 3/2"),
            ("losses", "1 2 3", "2", "2/3 2/3 2/3"), ("gains", "3 0 1", "1", "1 0 0"),
            ("gains", "", "0", ""), ("turns", "", "0", ""), ("losses", "0 0", "0", "0 0"), ("gains", "5", "2", "2"),
        ):
            with self.subTest(word=word, claims=claims, estate=estate):
                answer = turned(word, as_ratios(fractions(claims)), as_ratio(estate))
                self.assertEqual(answer, as_ratios(fractions(parts)))

    def test_the_claim_less_what_comes_of_what_lacks(self):
        for claims, estate in itertools.chain(small_cases(3, 3), mixed_cases(every=4)):
            missing = sum(claims, Fraction(0)) - estate
            for word in words_for(len(claims)):
                answer = turned(word, as_ratios(claims), as_ratio(estate))
                of_missing = asked(RULES[word], claims, missing)
                wanted = [claim - part for claim, part in zip(claims, of_missing)]
                self.assertEqual(answer, as_ratios(wanted), (word, claims, estate))
                self.assert_is_sharing(answer, claims, estate)

    def test_each_is_itself_or_another(self):
        for claims, estate in every_case():
            for word in words_for(len(claims)):
                answer = turned(word, as_ratios(claims), as_ratio(estate))
                wanted = RULES[TURNED[word]](as_ratios(claims), as_ratio(estate))
                self.assertEqual(answer, wanted, (word, claims, estate))


class Cut(LeanCase):
    def test_known_ones(self):
        for claims, estate, cut in (
            ("1 2 3", "2", "1 2 2"), ("1 2 3", "0", "0 0 0"), ("1 2 3", "6", "1 2 3"), ("1 2 3", "5/2", "1 2 5/2"),
            ("", "0", ""), ("0", "0", "0"), ("5 0", "1/3", "1/3 0"),
        ):
            with self.subTest(claims=claims, estate=estate):
                answer = cut_claims(as_ratios(fractions(claims)), as_ratio(estate))
                self.assertEqual(answer, as_ratios(fractions(cut)))

    def test_the_lesser_of_claim_and_estate(self):
        for claims, estate in every_case():
            answer = cut_claims(as_ratios(claims), as_ratio(estate))
            self.assertIs(type(answer), list)
            for one in answer:
                self.assert_is_ratio(one)
            self.assertEqual(answer, as_ratios([min(claim, estate) for claim in claims]), (claims, estate))

    def test_by_gains_halves_and_turns_they_get_the_same(self):
        for claims, estate in every_case():
            for word in set(words_for(len(claims))) - {"shares", "losses"}:
                cut = cut_claims(as_ratios(claims), as_ratio(estate))
                self.assertEqual(
                    BY_WORD[word](cut, as_ratio(estate)), BY_WORD[word](as_ratios(claims), as_ratio(estate)),
                    (word, claims, estate),
                )


class LeastRights(LeanCase):
    def test_known_ones(self):
        for claims, estate, rights in (
            ("1 2 3", "4", "0 0 1"), ("1 2 3", "5", "0 1 2"), ("1 2 3", "6", "1 2 3"), ("1 2 3", "3", "0 0 0"),
            ("1 2 3", "0", "0 0 0"), ("", "0", ""), ("5", "2", "2"), ("0", "0", "0"), ("0 5", "1/2", "0 1/2"),
            ("1/2 1/3", "2/3", "1/3 1/6"),
        ):
            with self.subTest(claims=claims, estate=estate):
                answer = least_rights(as_ratios(fractions(claims)), as_ratio(estate))
                self.assertEqual(answer, as_ratios(fractions(rights)))

    def test_the_estate_less_all_other_claims(self):
        for claims, estate in every_case():
            answer = least_rights(as_ratios(claims), as_ratio(estate))
            self.assertIs(type(answer), list)
            for one in answer:
                self.assert_is_ratio(one)
            self.assertEqual(answer, as_ratios(wanted_rights(claims, estate)), (claims, estate))

    def test_by_losses_halves_and_turns_they_may_come_first(self):
        for claims, estate in every_case():
            rights = asked(least_rights, claims, estate)
            rest = [claim - right for claim, right in zip(claims, rights)]
            for word in set(words_for(len(claims))) - {"shares", "gains"}:
                then = asked(BY_WORD[word], rest, estate - sum(rights, Fraction(0)))
                both = [right + part for right, part in zip(rights, then)]
                self.assertEqual(both, asked(BY_WORD[word], claims, estate), (word, claims, estate))


if __name__ == "__main__":
    unittest.main()
