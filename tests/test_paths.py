"""Growing estates: the path of claims by a rule [26], and the estate that is needed for an amount [27]."""

import itertools
import unittest
from fractions import Fraction

from helper import (
    BY_WORD, FOUR_WORDS, LeanCase, as_ratio, as_ratios, asked, estates_of, fractions, gained, kept, many_claims,
    small_claims,
)
from leanestate.errors import NoAmount, NoClaim, NoClaimer, NoRule, TooMany
from leanestate.paths import needed, path

GREAT = 10 ** 30


def path_as_fractions(word, claims):
    return [(Fraction(*estate), [Fraction(*part) for part in parts]) for estate, parts in path(word, as_ratios(claims))]


def growth(knot, later):
    """How much each part grows for each whole of the estate."""
    return [(after - before) / (later[0] - knot[0]) for before, after in zip(knot[1], later[1])]


def on_the_way(knot, later, estate):
    return [part + grown * (estate - knot[0]) for part, grown in zip(knot[1], growth(knot, later))]


def all_claims():
    return itertools.chain(many_claims(), small_claims(2, 4))


class Paths(LeanCase):
    def test_known_ones(self):
        for word, claims, knots in (
            ("shares", "1 2 3", "0: 0 0 0; 6: 1 2 3"),
            ("gains", "1 2 3", "0: 0 0 0; 3: 1 1 1; 5: 1 2 2; 6: 1 2 3"),
            ("losses", "1 2 3", "0: 0 0 0; 1: 0 0 1; 3: 0 1 2; 6: 1 2 3"),
            ("halves", "1 2 3", "0: 0 0 0; 3/2: 1/2 1/2 1/2; 5/2: 1/2 1 1; 7/2: 1/2 1 2; 9/2: 1/2 3/2 5/2; 6: 1 2 3"),
            ("gains", "3 1 3 0", "0: 0 0 0 0; 3: 1 1 1 0; 7: 3 1 3 0"),
            ("losses", "3 1 3 0", "0: 0 0 0 0; 4: 2 0 2 0; 7: 3 1 3 0"),
            ("halves", "3 1 3 0", "0: 0 0 0 0; 3/2: 1/2 1/2 1/2 0; 11/2: 5/2 1/2 5/2 0; 7: 3 1 3 0"),
            ("shares", "3 1 3 0", "0: 0 0 0 0; 7: 3 1 3 0"),
            ("halves", "5", "0: 0; 5: 5"), ("gains", "5", "0: 0; 5: 5"), ("losses", "5", "0: 0; 5: 5"),
            ("halves", "2 2", "0: 0 0; 4: 2 2"), ("gains", "2 2", "0: 0 0; 4: 2 2"),
            ("losses", "0 5", "0: 0 0; 5: 0 5"),
            ("gains", "1/2 1/3", "0: 0 0; 2/3: 1/3 1/3; 5/6: 1/2 1/3"),
        ):
            wanted = []
            for knot in knots.split("; "):
                estate, parts = knot.split(": ")
                wanted.append((as_ratio(estate), as_ratios(fractions(parts))))
            with self.subTest(word=word, claims=claims):
                self.assertEqual(path(word, as_ratios(fractions(claims))), wanted)

    def test_one_knot_where_the_total_is_nought(self):
        for word in FOUR_WORDS:
            for count in range(9):
                self.assertEqual(path(word, [(0, 1)] * count), [((0, 1), [(0, 1)] * count)])

    def test_kinds(self):
        for claims in all_claims():
            for word in FOUR_WORDS:
                answer = path(word, as_ratios(claims))
                self.assertIs(type(answer), list)
                for knot in answer:
                    self.assertEqual([type(knot), len(knot)], [tuple, 2])
                    self.assert_is_ratio(knot[0])
                    self.assert_is_sharing(knot[1], claims, Fraction(*knot[0]))

    def test_estates_rise_from_nought_to_the_total(self):
        for claims in all_claims():
            for word in FOUR_WORDS:
                estates = [estate for estate, parts in path_as_fractions(word, claims)]
                self.assertEqual([estates[0], estates[-1]], [0, sum(claims)])
                self.assertTrue(all(one < other for one, other in itertools.pairwise(estates)), (word, claims))

    def test_each_knot_is_shared_by_the_rule(self):
        for claims in all_claims():
            for word in FOUR_WORDS:
                for estate, parts in path_as_fractions(word, claims):
                    self.assertEqual(parts, asked(BY_WORD[word], claims, estate), (word, claims, estate))

    def test_between_two_knots_each_part_grows_evenly(self):
        for claims in many_claims():
            for word in FOUR_WORDS:
                for knot, later in itertools.pairwise(path_as_fractions(word, claims)):
                    # Among these estates are all at which a level reaches a claim or half of one.
                    between = [estate for estate in estates_of(claims) if knot[0] < estate < later[0]]
                    for estate in [*between, (knot[0] + later[0]) / 2, (knot[0] + 6 * later[0]) / 7]:
                        wanted = asked(BY_WORD[word], claims, estate)
                        self.assertEqual(on_the_way(knot, later, estate), wanted, (word, claims, estate))

    def test_no_knot_could_be_left_out(self):
        for claims in all_claims():
            for word in FOUR_WORDS:
                knots = path_as_fractions(word, claims)
                for ahead, knot, behind in zip(knots, knots[1:], knots[2:]):
                    self.assertNotEqual(growth(ahead, knot), growth(knot, behind), (word, claims, knot))

    def test_three_hundred_figures(self):
        claims = [Fraction(10 ** 299 + 3 * place, 10 ** 299 - place) for place in range(8)]
        for word, count in (("shares", 2), ("gains", 9), ("losses", 9), ("halves", 16)):
            knots = path_as_fractions(word, claims)
            self.assertEqual(len(knots), count)
            for estate, parts in knots:
                self.assertEqual(parts, asked(BY_WORD[word], claims, estate))

    def test_refusals(self):
        for word in FOUR_WORDS:
            with self.subTest(word=word):
                for claims in ([(1, 1)] * 9, [(0, 1)] * 9, [(-1, 1)] * 9, [(1, 1)] * 8 + [(-1, 1)], [(1, 1)] * 1000):
                    self.assertRaises(TooMany, path, word, claims)
                for claims in ([(-1, 1)], [(1, 1), (-1, GREAT)], [(1, 1)] * 7 + [(-1, 1)], [(-1, 1), (1, 1)]):
                    self.assertRaises(NoClaim, path, word, claims)
        for word in ("turns", "", "Gains", "rule"):
            for claims in ([], [(1, 1)], [(-1, 1)], [(1, 1)] * 9, [(-1, 1)] * 9):
                with self.subTest(word=word, claims=claims):
                    self.assertRaises(NoRule, path, word, claims)


def needed_in_shares(claims, claim, amount):
    return amount * sum(claims) / claim


def needed_by_gains(claims, claim, amount):
    return gained(amount, claims)


def needed_by_losses(claims, claim, amount):
    return kept(claim - amount, claims)


def needed_by_halves(claims, claim, amount):
    halves = [one / 2 for one in claims]
    if amount <= claim / 2:
        return gained(amount, halves)
    return sum(claims) - gained(claim - amount, halves)


NEEDED = {
    "shares": needed_in_shares, "gains": needed_by_gains, "losses": needed_by_losses, "halves": needed_by_halves,
}


def amounts_of(claims, claimer):
    """0, the claim, half of it, such between, and such as the other claims or halves of them are."""
    claim = claims[claimer]
    found = {Fraction(0), claim, claim / 2, claim / 3, claim - claim / 7, claim / 1000, claim - claim / 1000}
    for other in claims:
        found |= {amount for amount in (other, other / 2, claim - other, claim - other / 2) if 0 <= amount <= claim}
    return sorted(found)


class Needed(LeanCase):
    def asked_needed(self, word, claims, claimer, amount):
        answer = needed(word, as_ratios(claims), claimer, as_ratio(amount))
        self.assert_is_ratio(answer)
        return Fraction(*answer)

    def each_case(self):
        for claims in many_claims():
            for claimer in range(len(claims)):
                # Among many claimers every third amount is enough.
                amounts = amounts_of(claims, claimer)
                for amount in amounts if len(claims) < 5 else amounts[::3] + amounts[-1:]:
                    for word in FOUR_WORDS:
                        yield word, claims, claimer, amount

    def test_known_ones(self):
        for word, claims, claimer, amount, estate in (
            ("shares", "1 2 3", 2, "1", "2"), ("gains", "1 2 3", 2, "1", "3"), ("gains", "1 2 3", 2, "3/2", "4"),
            ("gains", "1 2 3", 0, "1", "3"), ("gains", "1 2 3", 1, "2", "5"), ("gains", "1 2 3", 2, "3", "6"),
            ("losses", "1 2 3", 2, "1", "1"), ("losses", "1 2 3", 0, "1/2", "9/2"), ("losses", "1 2 3", 0, "0", "0"),
            ("losses", "1 2 3", 1, "1", "3"), ("losses", "1 2 3", 0, "1", "6"), ("halves", "1 2 3", 0, "1/2", "3/2"),
            ("halves", "1 2 3", 2, "2", "7/2"), ("halves", "1 2 3", 0, "3/4", "21/4"),
            ("halves", "1 2 3", 1, "1", "5/2"), ("gains", "0 2", 0, "0", "0"), ("shares", "0 0", 1, "0", "0"),
            ("halves", "5", 0, "4", "4"), ("shares", "1 2 3", 0, "0", "0"), ("gains", "0", 0, "0", "0"),
        ):
            with self.subTest(word=word, claims=claims, claimer=claimer, amount=amount):
                answer = needed(word, as_ratios(fractions(claims)), claimer, as_ratio(amount))
                self.assertEqual(answer, as_ratio(estate))

    def test_against_what_the_levels_bring(self):
        for word, claims, claimer, amount in self.each_case():
            # Of the estate 0 each gets 0 already, also where the formulas tell a greater one.
            wanted = NEEDED[word](claims, claims[claimer], amount) if amount > 0 else 0
            self.assertEqual(self.asked_needed(word, claims, claimer, amount), wanted, (word, claims, claimer, amount))

    def test_the_amount_comes_of_it_and_less_of_a_lesser_one(self):
        for word, claims, claimer, amount in self.each_case():
            estate = self.asked_needed(word, claims, claimer, amount)
            part = asked(BY_WORD[word], claims, estate)[claimer]
            self.assertGreaterEqual(part, amount, (word, claims, claimer, amount))
            for lesser in (estate / 2, estate * Fraction(GREAT - 1, GREAT)) if estate > 0 else ():
                part = asked(BY_WORD[word], claims, lesser)[claimer]
                self.assertLess(part, amount, (word, claims, claimer, amount))

    def test_nothing_is_needed_for_nothing(self):
        for claims in all_claims():
            for word, claimer in itertools.product(FOUR_WORDS, range(len(claims))):
                self.assertEqual(needed(word, as_ratios(claims), claimer, (0, 1)), (0, 1))


class NotNeeded(unittest.TestCase):
    NO_AMOUNTS = (
        ("1 2 3", 0, "-1"), ("1 2 3", 0, "2"), ("1 2 3", 1, "3"), ("1 2 3", 2, "4"), ("0", 0, "1/9"), ("0", 0, "-1/9"),
        ("1 2 3", 1, "2000000000000000000000000000001/1000000000000000000000000000000"),
        ("1 2 3", 1, "-1/1000000000000000000000000000000"), ("0 5", 0, "5"), ("1 1 1 1 1 1 1 1", 7, "9/8"),
    )
    NO_CLAIMERS = (
        ("", 0), ("", -1), ("", 1), ("1", 1), ("1", -1), ("1 2 3", 3), ("1 2 3", -1), ("1 2 3", -3),
        ("1 2 3", 10 ** 299), ("1 2 3", -10 ** 299), ("1 1 1 1 1 1 1 1", 8), ("1 1 1 1 1 1 1 1", -8),
    )

    def test_no_amount(self):
        for claims, claimer, amount in self.NO_AMOUNTS:
            for word in FOUR_WORDS:
                with self.subTest(word=word, claims=claims, amount=amount), self.assertRaises(NoAmount):
                    needed(word, as_ratios(fractions(claims)), claimer, as_ratio(amount))

    def test_no_claimer_ahead_of_no_amount(self):
        for claims, claimer in self.NO_CLAIMERS:
            for word, amount in itertools.product(FOUR_WORDS, ("0", "1", "-1", "99")):
                with self.subTest(word=word, claims=claims, claimer=claimer), self.assertRaises(NoClaimer):
                    needed(word, as_ratios(fractions(claims)), claimer, as_ratio(amount))

    def test_what_is_refused_ahead_of_both(self):
        for claimer, amount in itertools.product((-1, 0, 1, 8, 9), ((0, 1), (1, 1), (-1, 1), (99, 1))):
            for word in FOUR_WORDS:
                with self.subTest(word=word, claimer=claimer, amount=amount):
                    self.assertRaises(TooMany, needed, word, [(1, 1)] * 9, claimer, amount)
                    self.assertRaises(TooMany, needed, word, [(-1, 1)] * 9, claimer, amount)
                    self.assertRaises(NoClaim, needed, word, [(1, 1), (-1, 2)], claimer, amount)
                    self.assertRaises(NoClaim, needed, word, [(-1, 2)], claimer, amount)
            for word in ("turns", "", "rule", "GAINS"):
                with self.subTest(word=word, claimer=claimer, amount=amount):
                    self.assertRaises(NoRule, needed, word, [(1, 1), (2, 1)], claimer, amount)
                    self.assertRaises(NoRule, needed, word, [(1, 1)] * 9, claimer, amount)
                    self.assertRaises(NoRule, needed, word, [(-1, 1)], claimer, amount)


if __name__ == "__main__":
    unittest.main()
