"""A desk: it keeps an estate and claims by names, and answers lines of text."""

from leanestate.errors import Known, NoAmount, NoName, TooMany
from leanestate.estates import MOST_CLAIMS
from leanestate.lines import line_read
from leanestate.pairs import of_two
from leanestate.paths import needed
from leanestate.ratios import NOUGHT, less, minus, plus
from leanestate.sharing import shared
from leanestate.texts import shown
from leanestate.turned import turned

LETTERS = "abcdefghijklmnopqrstuvwxyz"
LONGEST_NAME = 8


def is_name(word):
    # A word of a line has a sign at least.
    return len(word) <= LONGEST_NAME and all([sign in LETTERS for sign in word])


def listed(names, ratios):
    if len(names) == 0:
        return "none"
    return ", ".join([name + " " + shown(one) for name, one in zip(names, ratios)])


class Desk:
    def __init__(self):
        self.estate = NOUGHT
        # By name; a dict keeps the order in which the names came.
        self.claims = {}

    def say(self, line):
        told = line_read(line)
        self.look_at_names(told)
        self.look_at_amount(told)
        self.look_at_room(told)
        # An estate above the total is refused last of all, by the sharing itself: this comes ahead of every change.
        return self.answered(told)

    def look_at_names(self, told):
        if "NEW" in told and not is_name(told["NEW"]):
            raise NoName("a name is one to eight small letters")
        for word in ("NAME", "OTHER"):
            if word in told and told[word] not in self.claims:
                raise NoName("no claimer is called so")
        if "NEW" in told and told["NEW"] in self.claims:
            raise Known("a claimer is called so")

    def look_at_amount(self, told):
        if "R" in told and less(told["R"], NOUGHT):
            raise NoAmount("the amount is below 0")
        # An amount that is needed is held against the claim where the estate is looked for.
        if told["LINE"] == "part" and less(self.claims[told["NAME"]], told["R"]):
            raise NoAmount("the amount is above the claim")

    def look_at_room(self, told):
        if "NEW" in told and len(self.claims) == MOST_CLAIMS:
            raise TooMany("there are eight claimers")

    def answered(self, told):
        kind = told["LINE"]
        if kind == "show":
            return listed(["estate"] + list(self.claims), [self.estate] + self.claims_listed())
        if kind == "share":
            return listed(list(self.claims), self.parts_by(told["RULE"]))
        if kind == "turned":
            return listed(list(self.claims), turned(told["RULE"], self.claims_listed(), self.estate))
        if kind == "two":
            return self.two(told["RULE"], told["NAME"], told["OTHER"])
        if kind == "need":
            return self.need(told["RULE"], told["NAME"], told["R"])
        if kind == "leave":
            return self.leave(told["NAME"], told["RULE"])
        self.do(told)
        return "ok"

    def do(self, told):
        kind = told["LINE"]
        if kind == "claim":
            self.claims[told["NEW"]] = told["R"]
        elif kind == "more":
            self.add_to_claim(told["NAME"], told["R"])
        elif kind == "drop":
            self.claims.pop(told["NAME"])
        elif kind == "part":
            self.claims[told["NAME"]] = minus(self.claims[told["NAME"]], told["R"])
            self.claims[told["NEW"]] = told["R"]
        elif kind == "join":
            self.add_to_claim(told["NAME"], self.claims.pop(told["OTHER"]))
        elif kind == "estate":
            self.estate = told["R"]
        else:
            self.estate = plus(self.estate, told["R"])

    def claims_listed(self):
        return list(self.claims.values())

    def place_of(self, name):
        return list(self.claims).index(name)

    def parts_by(self, rule):
        return shared(rule, self.claims_listed(), self.estate)

    def add_to_claim(self, name, amount):
        self.claims[name] = plus(self.claims[name], amount)

    def leave(self, name, rule):
        part = self.parts_by(rule)[self.place_of(name)]
        self.claims.pop(name)
        self.estate = minus(self.estate, part)
        return shown(part)

    def two(self, rule, name, other):
        parts = self.parts_by(rule)
        amount = plus(parts[self.place_of(name)], parts[self.place_of(other)])
        both = of_two(rule, self.claims[name], self.claims[other], amount)
        return shown(both[0]) + " " + shown(both[1])

    def need(self, rule, name, amount):
        return shown(needed(rule, self.claims_listed(), self.place_of(name), amount))
