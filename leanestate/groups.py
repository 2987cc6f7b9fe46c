"""Groups of claimers: their worth, what each claimer adds to it, and their slacks in a sharing."""

from leanestate.errors import NoGroup
from leanestate.estates import left_over, look_at, look_at_sharing
from leanestate.ratios import NOUGHT, common_bottom, minus, ratio, tops_over
from leanestate.turns import look_at_order


def look_at_group(claims, group):
    if group < 0 or group >= 1 << len(claims):
        raise NoGroup("no group of the claimers is told by this number")


def is_in(group, claimer):
    return (group >> claimer) & 1 == 1


def of_members(listed, group):
    return [one for claimer, one in enumerate(listed) if is_in(group, claimer)]


def of_others(listed, group):
    return [one for claimer, one in enumerate(listed) if not is_in(group, claimer)]


def worth(claims, estate, group):
    look_at(claims, estate)
    look_at_group(claims, group)
    return left_over(of_others(claims, group), estate)


def added(claims, estate, order):
    look_at(claims, estate)
    look_at_order(claims, order)
    parts = [NOUGHT for claim in claims]
    come = 0
    before = NOUGHT
    for claimer in order:
        come = come | (1 << claimer)
        after = left_over(of_others(claims, come), estate)
        parts[claimer] = minus(after, before)
        before = after
    return parts


def slack(claims, parts, group):
    return sum(of_members(parts, group)) - max(sum(parts) - sum(of_others(claims, group)), 0)


def slacks(claims, parts):
    look_at_sharing(claims, parts)
    # Over one bottom all is reckoned in whole numbers, and these can be sorted.
    bottom = common_bottom(claims + parts)
    claimed = tops_over(bottom, claims)
    got = tops_over(bottom, parts)
    everybody = (1 << len(claims)) - 1
    return [ratio(top, bottom) for top in sorted([slack(claimed, got, group) for group in range(1, everybody)])]
