"""Two by two: the rule of two [18], odd pairs [19], and of which sharings there are some [20]."""

import itertools
import unittest
from fractions import Fraction

from helper import (
    FOUR_WORDS, RULES, LeanCase, as_ratio, as_ratios, changed_in_two, fractions, mixed_cases, mixed_claims, small_cases,
    small_sharings,
)
from leanestate.errors import NoClaim, NoEstate
from leanestate.pairs import odd_pair, of_two
from leanestate.sharing import shared


def two_in_shares(claim, other, amount):
    if claim + other == 0:
        return (Fraction(0), Fraction(0))
    return (claim * amount / (claim + other), other * amount / (claim + other))


def two_by_gains(claim, other, amount):
    """Each gets half, but where one claims less than that."""
    part = max(min(claim, amount / 2), amount - other)
    return (part, amount - part)


def two_by_losses(claim, other, amount):
    lost = two_by_gains(claim, other, claim + other - amount)
    return (claim - lost[0], other - lost[1])


def two_by_halves(claim, other, amount):
    """Each leaves the other one what is beyond its own claim; what both lay hands on is halved."""
    left_to_other = max(amount - claim, 0)
    left_to_first = max(amount - other, 0)
    half = (amount - left_to_other - left_to_first) / 2
    return (left_to_first + half, left_to_other + half)


OF_TWO = {
    "shares": two_in_shares, "gains": two_by_gains, "losses": two_by_losses, "halves": two_by_halves,
    "turns": two_by_halves,
}
GREAT = 10 ** 30
NUMBERS = (
    *range(5), Fraction(1, 2), Fraction(5, 3), Fraction(7, 4), GREAT - 1, Fraction(GREAT - 1, GREAT + 1),
    Fraction(GREAT + 7, GREAT - 3), Fraction(1, GREAT),
)


def two_claims():
    for claim, other in itertools.product(NUMBERS, repeat=2):
        yield Fraction(claim), Fraction(other)


def amounts_of(claim, other):
    both = claim + other
    found = {Fraction(0), both, both / 2, claim, other, claim / 2, other / 2, abs(claim - other), both - claim / 2}
    found |= {both * step / 7 for step in range(8)} | {both / 1000, both - both / 1000}
    return sorted(found)


def wanted_odd_pair(rule, claims, parts):
    for one, other in itertools.combinations(range(len(claims)), 2):
        amount = parts[one] + parts[other]
        if OF_TWO[rule](claims[one], claims[other], amount) != (parts[one], parts[other]):
            return (one, other)
    return None


class OfTwo(LeanCase):
    def test_known_ones(self):
        for rule, claim, other, amount, parts in (
            ("shares", "1", "3", "2", "1/2 3/2"), ("gains", "1", "3", "2", "1 1"), ("gains", "1", "3", "3", "1 2"),
            ("losses", "1", "3", "2", "0 2"), ("losses", "1", "3", "3", "1/2 5/2"), ("losses", "1", "3", "1", "0 1"),
            ("halves", "1", "3", "2", "1/2 3/2"), ("halves", "1", "3", "1/2", "1/4 1/4"),
            ("halves", "1", "3", "7/2", "3/4 11/4"), ("turns", "1", "3", "2", "1/2 3/2"),
            ("turns", "1", "1/2", "1", "3/4 1/4"), ("halves", "1", "1/2", "1", "3/4 1/4"),
            ("shares", "0", "0", "0", "0 0"), ("gains", "0", "5", "4", "0 4"), ("losses", "5", "0", "4", "4 0"),
        ):
            with self.subTest(rule=rule, claim=claim, other=other, amount=amount):
                answer = of_two(rule, as_ratio(claim), as_ratio(other), as_ratio(amount))
                self.assertEqual(answer, tuple(as_ratios(fractions(parts))))

    def test_many(self):
        for claim, other in two_claims():
            for rule, amount in itertools.product(RULES, amounts_of(claim, other)):
                answer = of_two(rule, as_ratio(claim), as_ratio(other), as_ratio(amount))
                self.assertIs(type(answer), tuple)
                wanted = OF_TWO[rule](claim, other, amount)
                self.assertEqual(answer, tuple(as_ratios(wanted)), (rule, claim, other, amount))
                self.assert_is_sharing(list(answer), [claim, other], amount)

    def test_what_comes_where_these_two_alone_claim(self):
        for claim, other in two_claims():
            for rule, amount in itertools.product(RULES, amounts_of(claim, other)):
                alone = RULES[rule](as_ratios([claim, other]), as_ratio(amount))
                self.assertEqual(of_two(rule, as_ratio(claim), as_ratio(other), as_ratio(amount)), tuple(alone))

    def test_a_claim_below_nought(self):
        for rule in RULES:
            for claim, other, amount in (
                ("-1", "2", "1"), ("2", "-1", "1"), ("-1", "-1", "0"), ("-1/9", "0", "0"), ("0", "-1/9", "0"),
                ("-1", "2", "-1"), ("2", "-1", "9"), ("-1", "-1", "-2"),
            ):
                with self.subTest(rule=rule, claim=claim, other=other), self.assertRaises(NoClaim):
                    of_two(rule, as_ratio(claim), as_ratio(other), as_ratio(amount))

    def test_an_amount_below_nought_or_above_both(self):
        little = Fraction(1, GREAT)
        for rule in RULES:
            for claim, other in ((1, 2), (0, 0), (0, 3), (Fraction(1, 2), Fraction(1, 3))):
                for amount in (-1, -little, claim + other + little, claim + other + 1):
                    with self.subTest(rule=rule, claim=claim, amount=amount), self.assertRaises(NoEstate):
                        of_two(rule, as_ratio(claim), as_ratio(other), as_ratio(amount))


class OddPairs(LeanCase):
    def asked_odd(self, rule, claims, parts):
        answer = odd_pair(rule, as_ratios(claims), as_ratios(parts))
        if answer is not None:
            self.assertIs(type(answer), tuple)
            self.assertEqual([type(number) for number in answer], [int, int])
        self.assertEqual(answer, wanted_odd_pair(rule, claims, parts), (rule, claims, parts))
        return answer

    def test_known_ones(self):
        for rule, claims, parts, pair in (
            ("shares", "1 2 3", "1/2 1 3/2", None), ("shares", "1 2 3", "1 1 1", (0, 1)),
            ("shares", "1 2 3", "1/2 1 1", (0, 2)), ("shares", "0 2 2", "0 1 0", (1, 2)),
            ("gains", "1 2 3", "1 3/2 3/2", None), ("gains", "1 3 3", "1 1 2", (1, 2)),
            ("gains", "1 3 3 3", "1 1 2 1/2", (0, 3)), ("gains", "1 3 3 3", "1 1 1 2", (1, 3)),
            ("gains", "1 3 3 3", "1 1 1 1", None), ("gains", "100 200 300", "50 75 75", (0, 1)),
            ("losses", "1 2 3", "0 1 2", None), ("losses", "1 2 3", "1 1 1", (0, 1)),
            ("losses", "1 3 3", "0 1 2", (1, 2)), ("halves", "100 200 300", "50 75 75", None),
            ("halves", "100 200 300", "100/3 250/3 250/3", (0, 1)), ("turns", "100 200 300", "50 75 75", None),
            ("turns", "100 200 300", "100/3 250/3 250/3", (0, 1)), ("turns", "1 1 1", "1 1 0", (0, 2)),
            ("shares", "1 1 1 1 1 1 1 1", "1 1 1 1 1 1 1 0", (0, 7)),
            ("losses", "0 0 0 0 0 0 1 1", "0 0 0 0 0 0 1 0", (6, 7)),
        ):
            with self.subTest(rule=rule, claims=claims, parts=parts):
                answer = odd_pair(rule, as_ratios(fractions(claims)), as_ratios(fractions(parts)))
                self.assertEqual(answer, pair)
                self.assertEqual(self.asked_odd(rule, fractions(claims), fractions(parts)), pair)

    def test_none_and_one_claimer(self):
        for rule in RULES:
            self.assertIsNone(odd_pair(rule, [], []))
            for part in ("0", "1/2", "2"):
                self.assertIsNone(odd_pair(rule, [(2, 1)], [as_ratio(part)]))
            self.assertIsNone(odd_pair(rule, [(0, 1)], [(0, 1)]))

    def test_nothing_and_all(self):
        for claims in mixed_claims():
            for rule in RULES:
                self.assertIsNone(self.asked_odd(rule, claims, claims))
                self.assertIsNone(self.asked_odd(rule, claims, [Fraction(0) for claim in claims]))

    def test_none_of_what_is_shared_by_the_rule(self):
        for claims, estate in itertools.chain(small_cases(), mixed_cases(every=3)):
            for rule in FOUR_WORDS:
                parts = shared(rule, as_ratios(claims), as_ratio(estate))
                self.assertIsNone(odd_pair(rule, as_ratios(claims), parts), (rule, claims, estate))

    def test_one_of_what_is_changed_in_two_parts(self):
        for claims, estate in mixed_cases(every=15):
            for rule in FOUR_WORDS:
                parts = [Fraction(*part) for part in shared(rule, as_ratios(claims), as_ratio(estate))]
                # Among many claimers every so manieth change is enough.
                for changed in itertools.islice(changed_in_two(claims, parts), 0, None, 1 + 2 * (len(claims) // 4)):
                    self.assertIsNotNone(self.asked_odd(rule, claims, changed), (rule, claims, changed))

    def test_one_of_every_other_sharing(self):
        for claims, parts in small_sharings(3, 3, 2):
            for rule in FOUR_WORDS:
                by_the_rule = shared(rule, as_ratios(claims), as_ratio(sum(parts, Fraction(0))))
                self.assertEqual(self.asked_odd(rule, claims, parts) is None, by_the_rule == as_ratios(parts))

    def test_one_of_every_other_sharing_among_four(self):
        for claims, parts in small_sharings(2, 4, 1):
            for rule in FOUR_WORDS:
                by_the_rule = shared(rule, as_ratios(claims), as_ratio(sum(parts, Fraction(0))))
                self.assertEqual(self.asked_odd(rule, claims, parts) is None, by_the_rule == as_ratios(parts))

    def test_by_turns_they_are_those_by_halves(self):
        for claims, parts in small_sharings(3, 3, 2):
            self.assertEqual(self.asked_odd("turns", claims, parts), self.asked_odd("halves", claims, parts))

    def test_by_turns_of_up_to_eight(self):
        for claims, estate in mixed_cases(every=15):
            parts = [Fraction(*part) for part in shared("halves", as_ratios(claims), as_ratio(estate))]
            self.assertIsNone(self.asked_odd("turns", claims, parts))
            for changed in itertools.islice(changed_in_two(claims, parts), 0, None, 1 + 2 * (len(claims) // 4)):
                self.assertIsNotNone(self.asked_odd("turns", claims, changed))

    def test_by_another_rule(self):
        for claims, estate in mixed_cases(every=4):
            for rule, other in itertools.permutations(FOUR_WORDS, 2):
                parts = [Fraction(*part) for part in shared(other, as_ratios(claims), as_ratio(estate))]
                self.asked_odd(rule, claims, parts)

    def test_three_hundred_figures(self):
        claims = [Fraction(10 ** 299 + 3 * place, 7) for place in range(8)]
        for rule in FOUR_WORDS:
            parts = [Fraction(*part) for part in shared(rule, as_ratios(claims), as_ratio(Fraction(10 ** 299, 11)))]
            self.assertIsNone(self.asked_odd(rule, claims, parts))
            parts[6], parts[7] = parts[6] + Fraction(1, 10 ** 299), parts[7] - Fraction(1, 10 ** 299)
            self.assertIsNotNone(self.asked_odd(rule, claims, parts))


if __name__ == "__main__":
    unittest.main()
