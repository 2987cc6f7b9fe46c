"""Leaving: what is left for those who stay, when the others leave with what they got."""

from leanestate.errors import NoClaimer
from leanestate.estates import total
from leanestate.sharing import shared


def look_at_stay(claims, stay):
    # Walked in their order, those who stay give this very list just where it rises and holds no other number.
    if stay != [claimer for claimer in range(len(claims)) if claimer in stay]:
        raise NoClaimer("those who stay are told by claimers' numbers, rising, each once")


def left(rule, claims, estate, stay):
    parts = shared(rule, claims, estate)
    look_at_stay(claims, stay)
    return ([claims[claimer] for claimer in stay], total([parts[claimer] for claimer in stay]))
