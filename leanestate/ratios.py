"""Ratios: tuples (top, bottom) of whole numbers in lowest terms, the bottom from 1 on."""

from leanestate.errors import NoRatio

NOUGHT = (0, 1)


def is_whole(value):
    # Python counts True and False among the ints; here they are no whole numbers.
    return isinstance(value, int) and not isinstance(value, bool)


def common_divisor(one, other):
    greater = abs(one)
    lesser = abs(other)
    while lesser != 0:
        rest = greater % lesser
        greater = lesser
        lesser = rest
    return greater


def ratio(top, bottom):
    if not is_whole(top) or not is_whole(bottom):
        raise NoRatio("a ratio is made of two whole numbers")
    if bottom == 0:
        raise NoRatio("the bottom of a ratio is not 0")
    divisor = common_divisor(top, bottom)
    # Parting both by a number below 0 brings the sign of the bottom up to the top.
    if bottom < 0:
        divisor = -divisor
    return (top // divisor, bottom // divisor)


def plus(one, other):
    return ratio(one[0] * other[1] + other[0] * one[1], one[1] * other[1])


def minus(one, other):
    return ratio(one[0] * other[1] - other[0] * one[1], one[1] * other[1])


def times(one, other):
    return ratio(one[0] * other[0], one[1] * other[1])


def over(one, other):
    if other[0] == 0:
        raise NoRatio("nothing is parted by 0")
    return ratio(one[0] * other[1], one[1] * other[0])


def less(one, other):
    # Bottoms are above 0, so the products across stand in the same order as the ratios.
    return one[0] * other[1] < other[0] * one[1]


def lesser_of(one, other):
    return other if less(other, one) else one


def common_bottom(ratios):
    bottom = 1
    for one in ratios:
        bottom = bottom * (one[1] // common_divisor(bottom, one[1]))
    return bottom


def tops_over(bottom, ratios):
    return [one[0] * (bottom // one[1]) for one in ratios]
