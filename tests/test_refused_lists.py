"""Lists that are no order of the claimers [15, 29], and such as are no sharing of the claims [19, 30]."""

import functools
import itertools
import unittest

from helper import RULES, as_ratios, fractions
from leanestate.errors import NoClaim, NoEstate, NoOrder, NoRule, NoSharing, TooMany
from leanestate.groups import added, slacks
from leanestate.pairs import odd_pair
from leanestate.turns import taken

# How many claimers there are, and a list that is no order of them.
NO_ORDERS = (
    (0, [0]), (0, [-1]), (0, [0, 1]), (1, []), (1, [1]), (1, [-1]), (1, [0, 0]), (1, [0, 1]), (1, [0, -1]),
    (2, []), (2, [0]), (2, [1]), (2, [0, 0]), (2, [1, 1]), (2, [1, 2]), (2, [0, -1]), (2, [-1, -2]),
    (2, [0, 1, 0]), (2, [0, 1, 2]), (2, [-1, 0, 1]), (3, [0, 1]), (3, [0, 1, 1]), (3, [2, 2, 2]),
    (3, [1, 2, 3]), (3, [0, 1, 3]), (3, [0, 1, -1]), (3, [0, 1, 10 ** 299]), (3, [0, 1, 2, 3]),
    (8, [0, 1, 2, 3, 4, 5, 6]), (8, [0, 1, 2, 3, 4, 5, 6, 8]), (8, [0, 1, 2, 3, 4, 5, 6, 6]),
    (8, [0, 1, 2, 3, 4, 5, 6, 7, 8]), (8, [0, 1, 2, 3, 4, 5, 6, 7, 0]), (8, [0, 1, 2, 3, 4, 5, 6, -1]),
    (3, list(range(1000))), (3, [0] * 1000),
)
# Claims, and a list that is no sharing of them.
NO_SHARINGS = (
    ("", "0"), ("", "1"), ("", "-1"), ("", "0 " * 9), ("0", ""), ("0", "0 0"), ("1 2", ""), ("1 2", "1"),
    ("1 2", "1 2 0"), ("1 2", "0 0 0"), ("1 1 1 1 1 1 1 1", "1 " * 7), ("1 1 1 1 1 1 1 1", "1 " * 9),
    ("1 2", "0 " * 1000), ("0", "-1/9"), ("0", "1/9"), ("5", "-1"), ("5", "6"), ("1 2", "-1 2"), ("1 2", "1 -1"),
    ("1 2", "2 1"), ("1 2", "2 0"), ("1 2", "0 3"), ("1 2", "-1 3"), ("1/2 1/3", "1/3 1/2"), ("0 0 0", "0 0 1/9"),
    ("1 2", "1 2000000000000000000000000000001/1000000000000000000000000000000"),
    ("1 2", "1 -1/1000000000000000000000000000000"), ("1 2", "-1 2 0"), ("1 2", "9"),
    ("1 1 1 1 1 1 1 1", "1 1 1 1 1 1 1 9/8"), ("1 1 1 1 1 1 1 1", "1 1 1 1 1 1 1 -1/8"),
)


ASKED_IN_AN_ORDER = {"taken": taken, "added": added}
ASKED_OF_A_SHARING = {
    "slacks": slacks, **{"odd_pair by " + rule: functools.partial(odd_pair, rule) for rule in RULES},
}


class NoOrders(unittest.TestCase):
    def test_lists_that_are_no_order(self):
        for length, order in NO_ORDERS:
            for (name, function), estate in itertools.product(ASKED_IN_AN_ORDER.items(), ((0, 1), (length, 1))):
                with self.subTest(name=name, length=length, order=order, estate=estate), self.assertRaises(NoOrder):
                    function([(1, 1)] * length, estate, order)

    def test_all_short_lists(self):
        for length in range(4):
            for count in range(5):
                for order in itertools.product(range(-1, 4), repeat=count):
                    if sorted(order) != list(range(length)):
                        for function in ASKED_IN_AN_ORDER.values():
                            self.assertRaises(NoOrder, function, [(1, 1)] * length, (0, 1), list(order))

    def test_behind_the_refusals_of_claims_and_estate(self):
        for order in ([], [0], [0, 0], [0, 1, 2], [-1, 0], list(range(9)), list(range(8))):
            for name, function in ASKED_IN_AN_ORDER.items():
                with self.subTest(name=name, order=order):
                    self.assertRaises(TooMany, function, [(1, 1)] * 9, (1, 1), order)
                    self.assertRaises(TooMany, function, [(-1, 1)] * 9, (-1, 1), order)
                    self.assertRaises(NoClaim, function, [(1, 1), (-1, 2)], (0, 1), order)
                    self.assertRaises(NoClaim, function, [(1, 1), (-1, 2)], (9, 1), order)
                    self.assertRaises(NoEstate, function, [(1, 1), (1, 2)], (2, 1), order)
                    self.assertRaises(NoEstate, function, [(1, 1), (1, 2)], (-1, 2), order)


class NoSharings(unittest.TestCase):
    def test_alone(self):
        for claims, parts in NO_SHARINGS:
            for name, function in ASKED_OF_A_SHARING.items():
                with self.subTest(name=name, claims=claims, parts=parts), self.assertRaises(NoSharing):
                    function(as_ratios(fractions(claims)), as_ratios(fractions(parts)))

    def test_behind_what_is_refused_ahead(self):
        for claims, parts in NO_SHARINGS:
            listed = as_ratios(fractions(parts))
            for name, function in ASKED_OF_A_SHARING.items():
                wrong = as_ratios(fractions(claims + " -1"))
                with self.subTest(name=name, claims=claims, parts=parts):
                    self.assertRaises(TooMany if len(wrong) > 8 else NoClaim, function, wrong, listed)
                    self.assertRaises(TooMany, function, [(1, 1)] * 9, listed)
                    self.assertRaises(TooMany, function, [(-1, 1)] * 9, listed)
                    self.assertRaises(NoClaim, function, [(-1, 1)], listed)
            self.assertRaises(NoRule, odd_pair, "rule", as_ratios(fractions(claims)), listed)
            self.assertRaises(NoRule, odd_pair, "rule", [(-1, 1)] * 9, listed)

    def test_right_parts_with_wrong_claims(self):
        for name, function in ASKED_OF_A_SHARING.items():
            with self.subTest(name=name):
                self.assertRaises(TooMany, function, [(1, 1)] * 9, [(1, 1)] * 9)
                self.assertRaises(TooMany, function, [(1, 1)] * 1000, [(0, 1)] * 1000)
                self.assertRaises(NoClaim, function, [(-1, 1)], [(-1, 1)])
                self.assertRaises(NoClaim, function, [(2, 1), (-1, 2)], [(1, 1), (0, 1)])


if __name__ == "__main__":
    unittest.main()
