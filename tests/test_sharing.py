"""Sharing by a rule's word, and texts that are no rule's word [16]."""

import unittest

from helper import BY_WORD, RULES, LeanCase, as_ratio, as_ratios, fractions, mixed_cases, small_cases, words_for
from leanestate.errors import NoClaim, NoEstate, NoRule, TooMany
from leanestate.leaving import left
from leanestate.pairs import odd_pair, of_two
from leanestate.paths import needed, path
from leanestate.sharing import shared
from leanestate.turned import turned

WORDS = ("shares", "gains", "losses", "halves", "turns")
RIGHT_AND_WRONG = (
    ("", "0"), ("1 2 3", "4"), ("5", "2"), ("1 1 1 1 1 1 1 1", "3"), ("1 " * 9, "1"), ("1 " * 9, "-1"),
    ("1 " * 9, "99"), ("-1 " * 9, "1"), ("-1 2", "1"), ("1 -1/2", "-1"), ("3 -1", "9"), ("1 2 3", "-1"),
    ("1 2 3", "7"), ("", "1"),
)
RIGHT_AND_WRONG_PARTS = ("", "0", "1 2 3", "0 1 1/2", "-1 0 0", "9 9 9", "1 " * 8, "1 " * 9, "-1 2")
RIGHT_AND_WRONG_STAYS = ([], [0], [0, 2], [0, 1, 2], [2, 1], [1, 1], [-1], [99])


def no_words():
    found = ["", " ", "\n", "0", "none", "shares gains", "shares,gains", "gainslosses", "sh\u0430res", "x" * 4000]
    for word in WORDS:
        found += [word.upper(), word.capitalize(), word[:-1] + word[-1].upper(), word[::-1], word + word]
        found += [" " + word, word + " ", " " + word + " ", word + "\n", "\t" + word, word + "\0", word + "."]
        found += [word[:length] for length in range(1, len(word))]
        found += [word[start:] for start in range(1, len(word))]
        found += [word + word[-1], "in_" + word, "by_" + word, '"' + word + '"', word[:3] + " " + word[3:]]
    return found


class Words(LeanCase):
    def test_the_words_are_five(self):
        self.assertEqual(tuple(RULES), WORDS)

    def test_known_ones(self):
        claims = as_ratios(fractions("1 2 3"))
        for word, parts in (
            ("shares", "2/3 4/3 2"), ("gains", "1 3/2 3/2"), ("losses", "1/3 4/3 7/3"), ("halves", "1/2 5/4 9/4"),
            ("turns", "2/3 7/6 13/6"),
        ):
            self.assertEqual(shared(word, claims, (4, 1)), as_ratios(fractions(parts)), word)

    def assert_as_by_the_rule(self, claims, estate):
        for word in words_for(len(claims)):
            answer = shared(word, as_ratios(claims), as_ratio(estate))
            self.assertEqual(answer, RULES[word](as_ratios(claims), as_ratio(estate)), (word, claims, estate))
            self.assert_is_sharing(answer, claims, estate)

    def test_small_ones(self):
        for claims, estate in small_cases(3, 3):
            self.assert_as_by_the_rule(claims, estate)

    def test_mixed_ones(self):
        for claims, estate in mixed_cases():
            self.assert_as_by_the_rule(claims, estate)

    def test_refused_as_claims_and_estates_are(self):
        for word in WORDS:
            with self.subTest(word=word):
                self.assertRaises(TooMany, BY_WORD[word], [(1, 1)] * 8 + [(-1, 1)], (-1, 1))
                self.assertRaises(NoClaim, BY_WORD[word], [(1, 1), (-1, 1)], (-1, 1))
                self.assertRaises(NoEstate, BY_WORD[word], [(1, 1), (1, 1)], (-1, 1))
                self.assertRaises(NoEstate, BY_WORD[word], [(1, 1), (1, 1)], (3, 1))


class NoWords(unittest.TestCase):
    def test_shared_and_turned(self):
        for word in no_words():
            for claims, estate in RIGHT_AND_WRONG:
                for function in (shared, turned):
                    with self.subTest(word=word, claims=claims, estate=estate), self.assertRaises(NoRule):
                        function(word, as_ratios(fractions(claims)), as_ratio(estate))

    def test_of_two(self):
        for word in no_words():
            for claim, other, amount in (
                ("1", "2", "2"), ("0", "0", "0"), ("-1", "2", "1"), ("2", "-1", "1"), ("1", "2", "-1"), ("1", "2", "4"),
                ("-1", "-1", "9"),
            ):
                with self.subTest(word=word, claim=claim, other=other, amount=amount), self.assertRaises(NoRule):
                    of_two(word, as_ratio(claim), as_ratio(other), as_ratio(amount))

    def test_odd_pair(self):
        for word in no_words():
            for claims, estate in RIGHT_AND_WRONG:
                for parts in RIGHT_AND_WRONG_PARTS:
                    with self.subTest(word=word, claims=claims, parts=parts), self.assertRaises(NoRule):
                        odd_pair(word, as_ratios(fractions(claims)), as_ratios(fractions(parts)))

    def test_left(self):
        for word in no_words():
            for claims, estate in RIGHT_AND_WRONG:
                for stay in RIGHT_AND_WRONG_STAYS:
                    with self.subTest(word=word, claims=claims, stay=stay), self.assertRaises(NoRule):
                        left(word, as_ratios(fractions(claims)), as_ratio(estate), list(stay))

    def test_path_and_needed_for_which_turns_are_none_either(self):
        for word in [*no_words(), "turns"]:
            for claims, estate in RIGHT_AND_WRONG:
                with self.subTest(word=word, claims=claims):
                    self.assertRaises(NoRule, path, word, as_ratios(fractions(claims)))
                    for claimer in (-1, 0, 1, 9):
                        self.assertRaises(NoRule, needed, word, as_ratios(fractions(claims)), claimer, as_ratio(estate))


if __name__ == "__main__":
    unittest.main()
