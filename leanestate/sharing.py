"""Sharing by a rule's word."""

from leanestate.errors import NoRule
from leanestate.rules import by_gains, by_halves, by_losses, in_shares
from leanestate.turns import by_turns

WORDS = ("shares", "gains", "losses", "halves", "turns")


def look_at_rule(rule):
    if rule not in WORDS:
        raise NoRule("the rules are shares, gains, losses, halves and turns")


def shared(rule, claims, estate):
    look_at_rule(rule)
    if rule == "shares":
        return in_shares(claims, estate)
    if rule == "gains":
        return by_gains(claims, estate)
    if rule == "losses":
        return by_losses(claims, estate)
    if rule == "halves":
        return by_halves(claims, estate)
    return by_turns(claims, estate)
