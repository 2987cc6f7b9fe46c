"""Two by two: how a rule shares among two, and which two of a sharing do not share so."""

from leanestate.estates import look_at_sharing
from leanestate.ratios import plus
from leanestate.sharing import look_at_rule, shared


def of_two(rule, claim, other, amount):
    return tuple(shared(rule, [claim, other], amount))


def is_odd(rule, claims, parts, one, other):
    amount = plus(parts[one], parts[other])
    return of_two(rule, claims[one], claims[other], amount) != (parts[one], parts[other])


def odd_pair(rule, claims, parts):
    look_at_rule(rule)
    look_at_sharing(claims, parts)
    for one in range(len(claims)):
        for other in range(one + 1, len(claims)):
            if is_odd(rule, claims, parts, one, other):
                return (one, other)
    return None
