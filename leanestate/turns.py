"""Turns: what each takes where the claimers come one by one, in one order and on the average over all."""

from leanestate.errors import NoOrder
from leanestate.estates import all_but, look_at
from leanestate.ratios import NOUGHT, common_bottom, lesser_of, minus, ratio, tops_over


def look_at_order(claims, order):
    if sorted(order) != list(range(len(claims))):
        raise NoOrder("an order holds each claimer's number once and nothing else")


def taken(claims, estate, order):
    look_at(claims, estate)
    look_at_order(claims, order)
    parts = [NOUGHT for claim in claims]
    left = estate
    for claimer in order:
        parts[claimer] = lesser_of(claims[claimer], left)
        left = minus(left, parts[claimer])
    return parts


def number_of_orders(count):
    number = 1
    for factor in range(2, count + 1):
        number = number * factor
    return number


# It matters alone what a group claims together and how many are in it, so a tuple of these two stands for it.
def groups_of(claims):
    groups = [(0, 0)]
    for claim in claims:
        groups = groups + [(claimed + claim, size + 1) for claimed, size in groups]
    return groups


# What a claimer takes hangs on the group that came ahead of it alone, not on the order within that group or behind:
# so each group is looked at once, and counts as many times as there are orders with it ahead.
def taken_in_all_orders(claim, others, estate):
    times_counted = [
        number_of_orders(size) * number_of_orders(len(others) - size) for size in range(len(others) + 1)
    ]
    return sum([
        times_counted[size] * min(claim, max(estate - claimed, 0)) for claimed, size in groups_of(others)
    ])


def by_turns(claims, estate):
    look_at(claims, estate)
    bottom = common_bottom(claims + [estate])
    tops = tops_over(bottom, claims)
    top = tops_over(bottom, [estate])[0]
    parted_by = bottom * number_of_orders(len(claims))
    return [
        ratio(taken_in_all_orders(tops[claimer], all_but(claimer, tops), top), parted_by)
        for claimer in range(len(claims))
    ]
