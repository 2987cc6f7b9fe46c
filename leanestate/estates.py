"""Claims, an estate and a sharing: what is refused of them, the total, what lacks, and what claims leave over."""

from leanestate.errors import NoClaim, NoEstate, NoSharing, TooMany
from leanestate.ratios import NOUGHT, less, minus, plus

MOST_CLAIMS = 8


def total(claims):
    found = NOUGHT
    for claim in claims:
        found = plus(found, claim)
    return found


def look_at_claims(claims):
    if len(claims) > MOST_CLAIMS:
        raise TooMany("there are more than eight claims")
    for claim in claims:
        if less(claim, NOUGHT):
            raise NoClaim("a claim is below 0")


def look_at(claims, estate):
    look_at_claims(claims)
    if less(estate, NOUGHT):
        raise NoEstate("the estate is below 0")
    if less(total(claims), estate):
        raise NoEstate("the estate is more than the total of the claims")


def look_at_sharing(claims, parts):
    look_at_claims(claims)
    if len(parts) != len(claims):
        raise NoSharing("a sharing holds one part for each claim")
    for claim, part in zip(claims, parts):
        if less(part, NOUGHT) or less(claim, part):
            raise NoSharing("a part is below 0 or above its claim")


def lack(claims, estate):
    look_at(claims, estate)
    return minus(total(claims), estate)


def claims_less(claims, parts):
    return [minus(claim, part) for claim, part in zip(claims, parts)]


def all_but(claimer, listed):
    return listed[:claimer] + listed[claimer + 1:]


def left_over(claims, estate):
    rest = minus(estate, total(claims))
    return NOUGHT if less(rest, NOUGHT) else rest
