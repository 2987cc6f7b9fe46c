"""Four rules by which an estate is shared: in shares, by gains, by losses, by halves."""

from leanestate.estates import claims_less, lack, look_at, total
from leanestate.levels import gain_level, loss_level
from leanestate.ratios import NOUGHT, less, lesser_of, over, times

HALF = (1, 2)


def in_shares(claims, estate):
    look_at(claims, estate)
    claimed = total(claims)
    # Nothing can be parted by a total of 0.
    if claimed == NOUGHT:
        return [NOUGHT for claim in claims]
    share = over(estate, claimed)
    return [times(claim, share) for claim in claims]


def by_gains(claims, estate):
    level = gain_level(claims, estate)
    return [lesser_of(claim, level) for claim in claims]


def by_losses(claims, estate):
    level = loss_level(claims, estate)
    return claims_less(claims, [lesser_of(claim, level) for claim in claims])


def by_halves(claims, estate):
    missing = lack(claims, estate)
    halves = [times(claim, HALF) for claim in claims]
    # The estate is at most half of the total just where it is at most what lacks.
    if not less(missing, estate):
        return by_gains(halves, estate)
    return claims_less(claims, by_gains(halves, missing))
