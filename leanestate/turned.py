"""Rules turned about, claims that are cut, and least rights."""

from leanestate.estates import all_but, claims_less, lack, left_over, look_at
from leanestate.ratios import lesser_of
from leanestate.sharing import look_at_rule, shared


def turned(rule, claims, estate):
    look_at_rule(rule)
    return claims_less(claims, shared(rule, claims, lack(claims, estate)))


def cut_claims(claims, estate):
    look_at(claims, estate)
    return [lesser_of(claim, estate) for claim in claims]


def least_rights(claims, estate):
    look_at(claims, estate)
    return [left_over(all_but(claimer, claims), estate) for claimer in range(len(claims))]
