"""What several tests need: claims and estates to ask of, and how the answers are looked at.

Claims and estates stand here as lists of Fractions and Fractions; `asked` hands them in as ratios.
"""

import functools
import itertools
import math
import random
import unittest
from fractions import Fraction

from leanestate.estates import lack
from leanestate.groups import added, worth
from leanestate.leaving import left
from leanestate.levels import gain_level, loss_level
from leanestate.rules import by_gains, by_halves, by_losses, in_shares
from leanestate.sharing import shared
from leanestate.turned import cut_claims, least_rights, turned
from leanestate.turns import by_turns, taken

RULES = {
    "shares": in_shares, "gains": by_gains, "losses": by_losses, "halves": by_halves, "turns": by_turns,
}
BY_WORD = {word: functools.partial(shared, word) for word in RULES}
FOUR_WORDS = ("shares", "gains", "losses", "halves")
MOST_BY_TURNS = 6


def words_for(count):
    # Of turns nothing is promised among more than six.
    return tuple(RULES) if count <= MOST_BY_TURNS else FOUR_WORDS


def taken_in_turn(claims, estate):
    return taken(claims, estate, list(range(len(claims))))


def added_in_turn(claims, estate):
    return added(claims, estate, list(range(len(claims))))


def worth_of_nobody(claims, estate):
    return worth(claims, estate, 0)


def left_for_all(rule, claims, estate):
    return left(rule, claims, estate, list(range(len(claims))))


TOLD_AS_LISTS = {
    "taken": taken_in_turn, "added": added_in_turn, "cut_claims": cut_claims, "least_rights": least_rights, **RULES,
    **{"shared by " + word: function for word, function in BY_WORD.items()},
    **{"turned by " + word: functools.partial(turned, word) for word in RULES},
}
ASKED_OF_CLAIMS_AND_ESTATE = {
    "lack": lack, "gain_level": gain_level, "loss_level": loss_level, "worth": worth_of_nobody, **TOLD_AS_LISTS,
    **{"left by " + word: functools.partial(left_for_all, word) for word in RULES},
}


def as_ratio(number):
    fraction = Fraction(number)
    return (fraction.numerator, fraction.denominator)


def as_ratios(numbers):
    return [as_ratio(number) for number in numbers]


def fractions(words):
    return [Fraction(word) for word in words.split()]


def asked(function, claims, estate):
    answer = function(as_ratios(claims), as_ratio(estate))
    if isinstance(answer, list):
        return [Fraction(*part) for part in answer]
    return Fraction(*answer)


def gained(level, claims):
    return sum((min(level, claim) for claim in claims), Fraction(0))


def kept(level, claims):
    return sum((max(claim - level, 0) for claim in claims), Fraction(0))


def estates_of(claims):
    """0, the total, half of it and its neighbours, such as just reach a claim as a level, and such between."""
    whole = sum(claims, Fraction(0))
    found = {Fraction(0), whole, whole / 2}
    for level in claims:
        found |= {gained(level, claims), kept(level, claims)}
        found |= {gained(level / 2, claims), kept(level / 2, claims)}
    for one, other in itertools.pairwise(sorted(found)):
        found |= {(one + other) / 2, (2 * one + other) / 3}
    if whole > 0:
        little = min(claim for claim in claims if claim > 0) / 1000
        found |= {whole / 2 - little, whole / 2 + little, little, whole - little}
    return sorted(found)


def some_estates(claims, every):
    """Every so manieth of these estates, and the total."""
    found = estates_of(claims)
    return found[::every] + found[-1:]


def small_claims(most, longest):
    """Every list of up to so many claims of whole numbers up to the greatest."""
    for length in range(longest + 1):
        for claims in itertools.product(range(most + 1), repeat=length):
            yield [Fraction(claim) for claim in claims]


SMALL_ESTATES = 3


def small_cases(most=3, longest=4):
    """Small claims, each list with all estates by steps of a third."""
    for claims in small_claims(most, longest):
        for step in range(SMALL_ESTATES * int(sum(claims)) + 1):
            yield claims, Fraction(step, SMALL_ESTATES)


def drawn_claims(source, length, figures, like_bottoms):
    most = 10 ** figures
    bottom = source.randrange(most // 10, most)
    claims = []
    for _ in range(length):
        if claims and source.randrange(5) == 0:
            claims.append(source.choice(claims))
        elif source.randrange(8) == 0:
            claims.append(Fraction(0))
        else:
            below = bottom if like_bottoms else source.randrange(most // 10, most)
            claims.append(Fraction(source.randrange(most), below))
    return claims


def mixed_claims(longest=8):
    """Lists of none to eight claims: small ones, ones of thirty figures, over bottoms alike and unlike."""
    source = random.Random(7)
    found = [[]]
    for length in range(1, longest + 1):
        found += [[Fraction(0)] * length, [Fraction(5, 3)] * length]
        found += [[Fraction(place) for place in range(1, length + 1)]]
        found += [[Fraction(1, place) for place in range(1, length + 1)]]
        found += [[Fraction(0)] * (length - 1) + [Fraction(7)]]
        for figures, like_bottoms in itertools.product((1, 2, 30), (True, False)):
            found.append(drawn_claims(source, length, figures, like_bottoms))
    return found


def many_claims(longest=8):
    return list(small_claims(3, 3)) + mixed_claims(longest)


def mixed_cases(longest=8, every=1):
    for claims in mixed_claims(longest):
        for estate in some_estates(claims, every):
            yield claims, estate


def small_sharings(most, longest, steps):
    """Small claims, each list with all sharings of it by so many steps for a whole."""
    for claims in small_claims(most, longest):
        for parts in itertools.product(*[range(steps * int(claim) + 1) for claim in claims]):
            yield claims, [Fraction(part, steps) for part in parts]


def changed_in_two(claims, parts):
    """The sharing with some of one part given to another one: as much as can be, the half of it, and a little."""
    for giver, taker in itertools.permutations(range(len(claims)), 2):
        most = min(parts[giver], claims[taker] - parts[taker])
        for given in (most, most / 2, most / 1000) if most > 0 else ():
            changed = list(parts)
            changed[giver] -= given
            changed[taker] += given
            yield changed


def orders_drawn(length, count):
    source = random.Random(length)
    orders = [list(range(length)), list(range(length))[::-1]]
    for _ in range(count):
        order = list(range(length))
        source.shuffle(order)
        orders.append(order)
    return orders


class LeanCase(unittest.TestCase):
    def assert_is_ratio(self, answer):
        self.assertIs(type(answer), tuple)
        self.assertEqual([type(number) for number in answer], [int, int])
        self.assertGreaterEqual(answer[1], 1)
        self.assertEqual(math.gcd(*answer), 1)

    def assert_is_sharing(self, answer, claims, estate):
        self.assertIs(type(answer), list)
        self.assertEqual(len(answer), len(claims))
        for part, claim in zip(answer, claims):
            self.assert_is_ratio(part)
            self.assertTrue(0 <= Fraction(*part) <= claim)
        self.assertEqual(sum((Fraction(*part) for part in answer), Fraction(0)), estate)

    def assert_shared(self, function, claims, estate, wanted):
        answer = function(as_ratios(claims), as_ratio(estate))
        self.assertEqual(answer, as_ratios(wanted), (claims, estate))
        self.assert_is_sharing(answer, claims, estate)
