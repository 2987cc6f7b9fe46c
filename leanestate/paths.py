"""Growing estates: the path of what each gets, and the estate that is needed for one to get an amount."""

from leanestate.errors import NoAmount, NoClaimer, NoRule
from leanestate.estates import look_at_claims, total
from leanestate.ratios import NOUGHT, common_bottom, less, minus, over, plus, ratio, times, tops_over
from leanestate.rules import HALF
from leanestate.sharing import look_at_rule, shared


def look_at_rule_of_path(rule):
    look_at_rule(rule)
    if rule == "turns":
        raise NoRule("a path goes by shares, gains, losses or halves")


# By gains these are the knots: where the level reaches a claim, its claimer's part grows no more.
def estates_at_claims(claims):
    bottom = common_bottom(claims)
    tops = tops_over(bottom, claims)
    return [ratio(sum([min(top, level) for top in tops]), bottom) for level in sorted(set(tops + [0]))]


def turned_round(claimed, estates):
    return [minus(claimed, estate) for estate in reversed(estates)]


def estates_of_knots(rule, claims):
    claimed = total(claims)
    if claimed == NOUGHT:
        return [NOUGHT]
    if rule == "shares":
        return [NOUGHT, claimed]
    estates = estates_at_claims(claims)
    if rule == "gains":
        return estates
    if rule == "losses":
        return turned_round(claimed, estates)
    # Half of the total is no knot: just ahead of it and just behind it the greatest claims' parts alone grow.
    lower = [times(estate, HALF) for estate in estates[:-1]]
    return lower + turned_round(claimed, lower)


def path(rule, claims):
    look_at_rule_of_path(rule)
    look_at_claims(claims)
    return [(estate, shared(rule, claims, estate)) for estate in estates_of_knots(rule, claims)]


def look_at_amount(claims, claimer, amount):
    if claimer < 0 or claimer >= len(claims):
        raise NoClaimer("the number is no claimer's")
    if less(amount, NOUGHT) or less(claims[claimer], amount):
        raise NoAmount("the amount is below 0 or above the claim")


def estate_between(knot, later, claimer, amount):
    part = knot[1][claimer]
    for_each_whole = over(minus(later[0], knot[0]), minus(later[1][claimer], part))
    return plus(knot[0], times(minus(amount, part), for_each_whole))


def needed(rule, claims, claimer, amount):
    knots = path(rule, claims)
    look_at_amount(claims, claimer, amount)
    place = 0
    # The last knot brings each the claim, so the walk ends there at the latest.
    while less(knots[place][1][claimer], amount):
        place = place + 1
    if place == 0:
        return NOUGHT
    return estate_between(knots[place - 1], knots[place], claimer, amount)
