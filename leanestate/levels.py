"""Levels: how much each may get at most, and how much each must lose at most, to come to the estate."""

from leanestate.estates import lack, look_at
from leanestate.ratios import NOUGHT, common_bottom, ratio, tops_over


def gain_level(claims, estate):
    look_at(claims, estate)
    # Ratios over one bottom stand in the order of their tops, and tops can be sorted.
    bottom = common_bottom(claims + [estate])
    rest = tops_over(bottom, [estate])[0]
    sharers = len(claims)
    for top in sorted(tops_over(bottom, claims)):
        # All lesser claims are met in full, so what is left goes evenly to this claimer and the greater ones.
        if rest <= top * sharers:
            return ratio(rest, bottom * sharers)
        rest = rest - top
        sharers = sharers - 1
    return NOUGHT


def loss_level(claims, estate):
    # Of each claim the lesser of it and of the level is lost, and what is lost comes to what lacks.
    return gain_level(claims, lack(claims, estate))
