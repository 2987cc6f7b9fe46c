"""What holds of all that are handed claims.

The names and arguments of the interface; the refusals of claims and an estate and their order [7]; nothing that is
handed in is changed, and every list that is told is the asker's own [2].
"""

import copy
import inspect
import unittest
from fractions import Fraction

from helper import (
    ASKED_OF_CLAIMS_AND_ESTATE, FOUR_WORDS, RULES, TOLD_AS_LISTS, as_ratio, as_ratios, fractions, mixed_claims,
)
from leanestate.desk import Desk
from leanestate.errors import (
    LeanError, NoAmount, NoClaim, NoClaimer, NoEstate, NoGroup, NoOrder, NoRule, NoSharing, TooMany,
)
from leanestate.estates import lack, total
from leanestate.groups import added, slacks, worth
from leanestate.leaving import left
from leanestate.levels import gain_level, loss_level
from leanestate.pairs import odd_pair, of_two
from leanestate.paths import needed, path
from leanestate.sharing import shared
from leanestate.turned import cut_claims, least_rights, turned
from leanestate.turns import taken

NINE = "1 " * 9
REFUSED = (
    (TooMany, NINE, "1"), (TooMany, "0 " * 9, "0"), (TooMany, "1 " * 100, "100"), (TooMany, "1 " * 1000, "0"),
    (TooMany, NINE + "-1", "1"), (TooMany, "-1 " + NINE, "1"), (TooMany, NINE, "10"), (TooMany, NINE, "-1"),
    (TooMany, "-1 " * 9, "1"), (TooMany, "-1 " * 9, "-1"), (TooMany, "-1 " + NINE, "99"),
    (NoClaim, "-1", "0"), (NoClaim, "-1/1000000000000000000000000000000", "0"), (NoClaim, "-1 2 3", "1"),
    (NoClaim, "1 2 -3", "0"), (NoClaim, "9 -1 9", "2"), (NoClaim, "0 0 0 0 0 0 0 -1/9", "0"),
    (NoClaim, "-1", "-1"), (NoClaim, "-1", "5"), (NoClaim, "3 -1", "3"), (NoClaim, "3 -1", "-1/2"),
    (NoClaim, "-1 -2", "-3"),
    (NoEstate, "", "1"), (NoEstate, "", "-1"), (NoEstate, "", "1/1000000000000000000000000000000"),
    (NoEstate, "0", "1/9"), (NoEstate, "0 0 0", "-1/9"), (NoEstate, "1", "2"), (NoEstate, "1 2 3", "7"),
    (NoEstate, "1 2 3", "6000000000000000000000000000001/1000000000000000000000000000000"),
    (NoEstate, "1 2 3", "-1"), (NoEstate, "1 2 3", "-1/1000000000000000000000000000000"),
    (NoEstate, "1/2 1/3 1/6", "7/6"), (NoEstate, "1 1 1 1 1 1 1 1", "9"), (NoEstate, "1 1 1 1 1 1 1 1", "-9"),
)
NOT_REFUSED = (
    ("", "0"), ("0", "0"), ("0 0 0 0 0 0 0 0", "0"), ("1 1 1 1 1 1 1 1", "8"), ("1 1 1 1 1 1 1 1", "0"),
    ("0 1", "0"), ("0 1", "1"), ("1/2 1/3 1/6", "1"), ("1/2 1/3 0 1/7", "0"), ("1/2 1/3 0 1/7", "41/42"),
)


class Interface(unittest.TestCase):
    def test_arguments(self):
        for function in [lack, gain_level, loss_level, cut_claims, least_rights, *RULES.values()]:
            self.assertEqual(list(inspect.signature(function).parameters), ["claims", "estate"])
        for function, names in (
            (total, "claims"), (taken, "claims estate order"), (worth, "claims estate group"),
            (added, "claims estate order"), (slacks, "claims parts"), (Desk, ""), (Desk().say, "line"),
        ):
            self.assertEqual(list(inspect.signature(function).parameters), names.split())

    def test_arguments_where_a_rule_is_handed_in(self):
        for function, names in (
            (shared, "rule claims estate"), (of_two, "rule claim other amount"), (odd_pair, "rule claims parts"),
            (left, "rule claims estate stay"), (turned, "rule claims estate"), (path, "rule claims"),
            (needed, "rule claims claimer amount"),
        ):
            self.assertEqual(list(inspect.signature(function).parameters), names.split())


class Refusals(unittest.TestCase):
    def test_the_first_that_is_due(self):
        for refusal, claims, estate in REFUSED:
            for name, function in ASKED_OF_CLAIMS_AND_ESTATE.items():
                with self.subTest(name=name, claims=claims, estate=estate), self.assertRaises(refusal):
                    function(as_ratios(fractions(claims)), as_ratio(estate))

    def test_the_bounds_are_no_refusals(self):
        for claims, estate in NOT_REFUSED:
            for name, function in ASKED_OF_CLAIMS_AND_ESTATE.items():
                with self.subTest(name=name, claims=claims, estate=estate):
                    function(as_ratios(fractions(claims)), as_ratio(estate))

    def test_the_total_refuses_nothing(self):
        self.assertEqual(total([(1, 1)] * 9), (9, 1))
        self.assertEqual(total([(-1, 1)] * 9), (-9, 1))
        self.assertEqual(total([(1, 2), (-1, 1)]), (-1, 2))


class NothingIsChanged(unittest.TestCase):
    def test_behind_an_answer(self):
        for claims in mixed_claims(6):
            listed = as_ratios(claims)
            for estate in (Fraction(0), sum(claims, Fraction(0)) / 3, sum(claims, Fraction(0))):
                for name, function in ASKED_OF_CLAIMS_AND_ESTATE.items():
                    before = copy.deepcopy(listed)
                    function(listed, as_ratio(estate))
                    self.assertEqual(listed, before, name)
            total(listed)
            self.assertEqual(listed, as_ratios(claims))

    def test_an_order_behind_an_answer(self):
        for function in (taken, added):
            for order in ([2, 0, 1], [0, 1, 2], [2, 1, 0]):
                before = list(order)
                function([(1, 1), (2, 1), (3, 1)], (4, 1), order)
                self.assertEqual(order, before)

    def test_behind_a_refusal(self):
        for refusal, claims, estate in REFUSED:
            listed = as_ratios(fractions(claims))
            for function in ASKED_OF_CLAIMS_AND_ESTATE.values():
                self.assertRaises(LeanError, function, listed, as_ratio(estate))
                self.assertEqual(listed, as_ratios(fractions(claims)))

    def test_an_order_behind_a_refusal(self):
        for function in (taken, added):
            for order in ([2, 0], [2, 0, 1, 1], [3, 2, 1], []):
                before = list(order)
                claims = [(3, 1), (1, 1), (2, 1)]
                self.assertRaises(NoOrder, function, claims, (4, 1), order)
                self.assertRaises(NoEstate, function, claims, (7, 1), order)
                self.assertEqual(order, before)
                self.assertEqual(claims, [(3, 1), (1, 1), (2, 1)])

    def test_claims_where_groups_and_growing_estates_are_asked(self):
        for claims in mixed_claims(6):
            listed = as_ratios(claims)
            for word in FOUR_WORDS:
                path(word, listed)
                for claimer in range(len(claims)):
                    needed(word, listed, claimer, listed[claimer])
                    self.assertRaises(NoAmount, needed, word, listed, claimer, (-1, 1))
                self.assertRaises(NoClaimer, needed, word, listed, -1, (0, 1))
            self.assertRaises(NoRule, path, "turns", listed)
            for group in range(1 << len(claims)):
                worth(listed, as_ratio(sum(claims, Fraction(0)) / 2), group)
            self.assertRaises(NoGroup, worth, listed, (0, 1), -1)
            self.assertEqual(listed, as_ratios(claims))

    def test_parts_behind_an_answer_and_a_refusal(self):
        for rule in (*RULES, "rule"):
            for words in ("1 2 2", "3/2 1/2 0", "0 0 0", "4 1/2 2", "3 -1 2", "3 1/2", "", "1 1 1 1"):
                claims = as_ratios(fractions("3 1/2 2"))
                parts = as_ratios(fractions(words))
                for function, given in ((odd_pair, (rule, claims, parts)), (slacks, (claims, parts))):
                    try:
                        function(*given)
                    except (NoRule, NoSharing):
                        pass
                self.assertEqual(parts, as_ratios(fractions(words)))
                self.assertEqual(claims, as_ratios(fractions("3 1/2 2")))

    def test_those_who_stay_behind_an_answer_and_a_refusal(self):
        for rule in (*RULES, "rule"):
            for stay in ([], [0, 2], [0, 1, 2], [2, 1, 0], [1, 1], [0, 3], [-1]):
                claims = as_ratios(fractions("3 1/2 2"))
                before = list(stay)
                try:
                    left(rule, claims, (4, 1), stay)
                except (NoRule, NoClaimer):
                    pass
                self.assertEqual(stay, before)
                self.assertEqual(claims, as_ratios(fractions("3 1/2 2")))

    def test_a_refusal_changes_no_later_answer(self):
        for name, function in ASKED_OF_CLAIMS_AND_ESTATE.items():
            claims = [(3, 1), (1, 2), (2, 1)]
            before = function(claims, (4, 1))
            for refusal, wrong, estate in REFUSED:
                self.assertRaises(refusal, function, as_ratios(fractions(wrong)), as_ratio(estate))
            self.assertEqual(function(claims, (4, 1)), before, name)


class ListsAreTheAskersOwn(unittest.TestCase):
    def test_a_told_list_is_changed(self):
        for claims in mixed_claims(6):
            for estate in (Fraction(0), sum(claims, Fraction(0)) / 3, sum(claims, Fraction(0))):
                for name, function in TOLD_AS_LISTS.items():
                    listed = as_ratios(claims)
                    told = function(listed, as_ratio(estate))
                    kept = list(told)
                    told.append((99, 1))
                    told[0] = (77, 1)
                    self.assertEqual(listed, as_ratios(claims), name)
                    again = function(listed, as_ratio(estate))
                    self.assertEqual(again, kept, name)
                    # What is handed in is changed later: what was told stays.
                    listed.append((55, 1))
                    listed[0] = (44, 1)
                    self.assertEqual(again, kept, name)

    def test_a_told_list_is_not_the_order(self):
        order = [1, 0]
        told = taken([(1, 1), (0, 1)], (1, 1), order)
        told[0] = (7, 1)
        self.assertEqual(order, [1, 0])
        order.reverse()
        self.assertEqual(told, [(7, 1), (0, 1)])

    def test_slacks(self):
        claims = [(3, 1), (1, 2), (2, 1)]
        parts = [(3, 2), (1, 2), (0, 1)]
        told = slacks(claims, parts)
        before = list(told)
        told.clear()
        self.assertEqual((claims, parts), ([(3, 1), (1, 2), (2, 1)], [(3, 2), (1, 2), (0, 1)]))
        self.assertEqual(slacks(claims, parts), before)

    def test_a_path_and_the_sharings_in_it(self):
        for claims in [[], [Fraction(0)], *mixed_claims(5)]:
            for word in FOUR_WORDS:
                listed = as_ratios(claims)
                told = path(word, listed)
                before = copy.deepcopy(told)
                for estate, parts in told:
                    parts.append((99, 1))
                    parts[0] = (77, 1)
                # No two knots hold one list, and none the claims themselves.
                self.assertTrue(all(len(parts) == len(claims) + 1 for estate, parts in told))
                self.assertEqual(listed, as_ratios(claims))
                told.clear()
                again = path(word, listed)
                self.assertEqual(again, before)
                listed.append((55, 1))
                self.assertEqual(again, before)

    def test_the_claims_that_are_left(self):
        for rule in RULES:
            for stay in ([], [1], [0, 2], [0, 1, 2]):
                claims = [(3, 1), (1, 2), (2, 1)]
                told = left(rule, claims, (4, 1), stay)
                before = copy.deepcopy(told)
                told[0].append((99, 1))
                told[0][0] = (77, 1)
                self.assertEqual(claims, [(3, 1), (1, 2), (2, 1)])
                again = left(rule, claims, (4, 1), stay)
                self.assertEqual(again, before)
                claims.clear()
                stay.append(7)
                self.assertEqual(again, before)


if __name__ == "__main__":
    unittest.main()
