"""Which line a desk refuses, with which refusal [35], and that a refused line leaves the desk as it was [2].

A model of the desk tells what each line is answered: lines of all kinds are put together of right and of wrong words
in every way, said at several desks, and drawn by chance from a fixed source.
"""

import itertools
import random
import re
import unittest
from fractions import Fraction

from helper import RULES, as_ratio, as_ratios, words_for
from leanestate.desk import Desk
from leanestate.errors import Known, LeanError, NoAmount, NoEstate, NoLine, NoName, NoRule, NoText, TooMany
from leanestate.pairs import of_two
from leanestate.paths import needed
from leanestate.sharing import shared
from leanestate.turned import turned

LINES = (
    "claim NEW R", "more NAME R", "drop NAME", "part NAME NEW R", "join NAME OTHER", "estate R", "grow R",
    "leave NAME RULE", "show", "share RULE", "turned RULE", "two RULE NAME OTHER", "need RULE NAME R",
)
FORMS = {line.split()[0]: line.split()[1:] for line in LINES}
RATIO = re.compile("(-?[1-9][0-9]{0,59}|0)|(-?[1-9][0-9]{0,59})/([1-9][0-9]{0,59})")


def is_ratio(word):
    return RATIO.fullmatch(word) is not None and str(Fraction(word)) == word


class Model:
    """The claimers stand in a list of names and a list of claims; of a line that is refused the refusal is told."""

    def __init__(self):
        self.estate = Fraction(0)
        self.names = []
        self.claims = []

    def refusal(self, line):
        words = [word for word in re.split(" +", line) if word]
        if not words or words[0] not in FORMS or len(words) - 1 != len(FORMS[words[0]]):
            return NoLine
        told = dict(zip(FORMS[words[0]], words[1:]))
        names = [told[word] for word in ("NAME", "OTHER") if word in told]
        if len(names) != len(set(names)):
            return NoLine
        if "R" in told and not is_ratio(told["R"]):
            return NoText
        if "RULE" in told and (told["RULE"] not in RULES or told["RULE"] == "turns" and words[0] == "need"):
            return NoRule
        return self.refusal_of_names(names, told) or self.refusal_of_amounts(words[0], told)

    def refusal_of_names(self, names, told):
        if any(name not in self.names for name in names):
            return NoName
        if "NEW" in told and not re.fullmatch("[a-z]{1,8}", told["NEW"]):
            return NoName
        return Known if "NEW" in told and told["NEW"] in self.names else None

    def refusal_of_amounts(self, kind, told):
        if "R" in told and Fraction(told["R"]) < 0:
            return NoAmount
        if kind in ("part", "need") and Fraction(told["R"]) > self.claims[self.names.index(told["NAME"])]:
            return NoAmount
        if kind in ("claim", "part") and len(self.names) == 8:
            return TooMany
        if kind in ("share", "turned", "two", "leave") and self.estate > sum(self.claims):
            return NoEstate
        return None

    def listed(self, ratios):
        return ", ".join(f"{name} {Fraction(*one)}" for name, one in zip(self.names, ratios)) or "none"

    def come(self, name, claim):
        self.names.append(name)
        self.claims.append(claim)

    def go(self, name):
        place = self.names.index(name)
        self.names.pop(place)
        return self.claims.pop(place)

    def parts(self, rule):
        return shared(rule, as_ratios(self.claims), as_ratio(self.estate))

    def show(self):
        claims = [f"{name} {claim}" for name, claim in zip(self.names, self.claims)]
        return ", ".join([f"estate {self.estate}", *claims])

    def answer(self, line):
        kind, *rest = line.split()
        return getattr(self, "answer_" + kind)(*rest)

    def answer_claim(self, new, amount):
        self.come(new, Fraction(amount))
        return "ok"

    def answer_more(self, name, amount):
        self.claims[self.names.index(name)] += Fraction(amount)
        return "ok"

    def answer_drop(self, name):
        self.go(name)
        return "ok"

    def answer_part(self, name, new, amount):
        self.claims[self.names.index(name)] -= Fraction(amount)
        self.come(new, Fraction(amount))
        return "ok"

    def answer_join(self, name, other):
        claim = self.go(other)
        self.claims[self.names.index(name)] += claim
        return "ok"

    def answer_estate(self, amount):
        self.estate = Fraction(amount)
        return "ok"

    def answer_grow(self, amount):
        self.estate += Fraction(amount)
        return "ok"

    def answer_leave(self, name, rule):
        part = Fraction(*self.parts(rule)[self.names.index(name)])
        self.go(name)
        self.estate -= part
        return str(part)

    def answer_show(self):
        return self.show()

    def answer_share(self, rule):
        return self.listed(self.parts(rule))

    def answer_turned(self, rule):
        return self.listed(turned(rule, as_ratios(self.claims), as_ratio(self.estate)))

    def answer_two(self, rule, name, other):
        both = [self.names.index(name), self.names.index(other)]
        amount = sum(Fraction(*self.parts(rule)[place]) for place in both)
        claims = as_ratios(self.claims[place] for place in both)
        return " ".join(str(Fraction(*part)) for part in of_two(rule, *claims, as_ratio(amount)))

    def answer_need(self, rule, name, amount):
        estate = needed(rule, as_ratios(self.claims), self.names.index(name), as_ratio(Fraction(amount)))
        return str(Fraction(*estate))


POOLS = {
    "NEW": ("new", "newnames", "ann", "bo", "newnamess", "New", "neW", "n3w", "0", "n-w", "n\u00e9w", "n\u0430w"),
    "NAME": ("ann", "bo", "zed", "Ann", "ann1", "annannann"),
    "OTHER": ("bo", "ann", "zed", "Bo", "bo,"),
    "R": (
        "1", "0", "1/2", "5/2", "2", "99", "-1", "-1/2", "6/4", "3/1", "-0", "+2", "x", "1/0", "0/1", "01", "1,5",
        "1.5", "9" * 60, "9" * 61, "-" + "9" * 61, "1/" + "9" * 60, "1/" + "9" * 61,
    ),
    "RULE": (*RULES, "rule", "Gains", "gain", "gains,"),
}
DESKS = (
    (), ("estate 3",), ("claim ann 2",), ("claim ann 2", "claim bo 5/2"), ("claim ann 2", "claim bo 5/2", "estate 3"),
    ("claim bo 1", "claim ann 0", "estate 1"), ("claim ann 2", "claim bo 5/2", "estate 9/2"),
    ("claim ann 2", "claim bo 5/2", "estate 14/3"), ("claim zed 1", "claim bo 1", "claim new 1"),
    ("claim ann 2", *(f"claim {name} 1" for name in "bo cy di ed fay gus".split()), "estate 2"),
    ("claim ann 2", *(f"claim {name} 1" for name in "bo cy di ed fay gus hal".split()), "estate 2"),
    ("claim ann 2", *(f"claim {name} 1" for name in "bo cy di ed fay gus hal".split()), "estate 99"),
)


def all_lines(kind):
    for words in itertools.product(*[POOLS[slot] for slot in FORMS[kind]]):
        yield " ".join([kind, *words])


def at_a_desk(lines):
    desk, model = Desk(), Model()
    for line in lines:
        assert desk.say(line) == model.answer(line)
    return desk, model


class DeskCase(unittest.TestCase):
    def assert_said(self, desk, model, line):
        """Told is the refusal, or None where the line is answered."""
        refusal = model.refusal(line)
        if refusal is None:
            self.assertEqual(desk.say(line), model.answer(line), line)
        else:
            with self.assertRaises(LeanError, msg=line) as caught:
                desk.say(line)
            self.assertIs(type(caught.exception), refusal, line)
        self.assertEqual(desk.say("show"), model.show(), line)
        return refusal


class EveryLine(DeskCase):
    def test_right_and_wrong_words_at_every_desk(self):
        due = {
            "claim": {NoText, NoName, Known, NoAmount, TooMany}, "more": {NoText, NoName, NoAmount}, "drop": {NoName},
            "part": {NoText, NoName, Known, NoAmount, TooMany}, "join": {NoLine, NoName}, "estate": {NoText, NoAmount},
            "grow": {NoText, NoAmount}, "leave": {NoRule, NoName, NoEstate}, "show": set(),
            "share": {NoRule, NoEstate}, "turned": {NoRule, NoEstate}, "two": {NoLine, NoRule, NoName, NoEstate},
            "need": {NoText, NoRule, NoName, NoAmount},
        }
        for kind in FORMS:
            found = set()
            for lines in DESKS:
                desk, model = at_a_desk(lines)
                for line in all_lines(kind):
                    refusal = self.assert_said(desk, model, line)
                    found.add(refusal)
                    if refusal is None and kind not in ("show", "share", "turned", "two", "need"):
                        desk, model = at_a_desk(lines)
            self.assertEqual(found, due[kind] | {None}, kind)

    def test_another_number_of_words(self):
        for lines in DESKS:
            desk, model = at_a_desk(lines)
            for kind, form in FORMS.items():
                right = [POOLS[slot][0] for slot in form]
                wrong = [POOLS[slot][-1] for slot in form]
                for words in (right, wrong):
                    for count in range(len(form)):
                        self.assertRaises(NoLine, desk.say, " ".join([kind, *words[:count]]))
                    for more in ("1", "ann", "gains", "show", "x", "ann bo", "ann " * 500):
                        self.assertRaises(NoLine, desk.say, " ".join([kind, *words, more]))
                        self.assertRaises(NoLine, desk.say, " ".join([more, kind, *words]))
            self.assertEqual(desk.say("show"), model.show())

    def test_other_first_words(self):
        for lines in DESKS:
            desk, model = at_a_desk(lines)
            for word in (
                "x", "Show", "SHOW", "shows", "sho", "claims", "claim,", "ann", "ok", "none", "gains", "1", "LINE",
                "NAME", "NEW", "R", "say", "estates", "show.", "'show'", "leanestate", "\u0455how", "__init__",
                "x" * 4000,
            ):
                for rest in ("", " 1", " ann", " ann 1", " gains", " ann bo 1", " gains ann bo", " gains ann 1"):
                    self.assertRaises(NoLine, desk.say, word + rest)
            self.assertEqual(desk.say("show"), model.show())

    def test_both_names_are_one(self):
        for lines in DESKS:
            desk, model = at_a_desk(lines)
            for name in ("ann", "bo", "zed", "Ann", "1", "annannann"):
                for line in (f"join {name} {name}", f"two gains {name} {name}", f"two rule {name} {name}"):
                    self.assertRaises(NoLine, desk.say, line)
            self.assertEqual(desk.say("show"), model.show())


class KnownRefusals(DeskCase):
    def test_each_ahead_of_those_behind_it(self):
        for lines, refusal, line in (
            ((), NoLine, "part zed N3W x y"), ((), NoText, "part zed N3W x"), ((), NoName, "part zed N3W -1"),
            ((), NoText, "claim N3W x"), ((), NoName, "claim N3W -1"), ((), NoAmount, "claim new -1"),
            (DESKS[-1], NoText, "claim ann x"), (DESKS[-1], NoName, "claim Ann -1"), (DESKS[-1], Known, "claim ann -1"),
            (DESKS[-1], NoAmount, "claim new -1"), (DESKS[-1], TooMany, "claim new 1"),
            (DESKS[-1], NoText, "part zed bo x"), (DESKS[-1], NoName, "part zed bo -1"),
            (DESKS[-1], NoName, "part ann Bo 99"), (DESKS[-1], Known, "part ann bo 99"),
            (DESKS[-1], Known, "part ann ann 99"), (DESKS[-1], NoAmount, "part ann new 99"),
            (DESKS[-1], NoAmount, "part ann new -1"), (DESKS[-1], TooMany, "part ann new 2"),
            ((), NoText, "more zed x"), ((), NoName, "more zed -1"), (DESKS[3], NoAmount, "more ann -1"),
            ((), NoName, "drop zed"), ((), NoLine, "join zed zed"), ((), NoName, "join zed bo"),
            (DESKS[3], NoName, "join ann zed"), (DESKS[3], NoName, "join zed ann"),
            ((), NoText, "estate x"), ((), NoAmount, "estate -1"), ((), NoText, "grow 2/2"),
            ((), NoAmount, "grow -1/2"),
            (DESKS[-1], NoRule, "leave zed rule"), (DESKS[-1], NoName, "leave zed gains"),
            (DESKS[-1], NoEstate, "leave ann gains"), (DESKS[-1], NoRule, "share rule"),
            (DESKS[-1], NoEstate, "share turns"), (DESKS[-1], NoRule, "turned rule"),
            (DESKS[-1], NoEstate, "turned gains"),
            (DESKS[-1], NoLine, "two rule zed zed"), (DESKS[-1], NoRule, "two rule zed ann"),
            (DESKS[-1], NoName, "two gains zed ann"), (DESKS[-1], NoName, "two gains ann zed"),
            (DESKS[-1], NoEstate, "two gains ann bo"), (DESKS[1], NoEstate, "share gains"),
            (DESKS[1], NoEstate, "turned turns"), (DESKS[-1], NoText, "need turns zed x"),
            (DESKS[-1], NoRule, "need turns zed -1"), (DESKS[-1], NoRule, "need rule ann 99"),
            (DESKS[-1], NoName, "need gains zed -1"), (DESKS[-1], NoAmount, "need gains ann -1"),
            (DESKS[-1], NoAmount, "need gains ann 99"), ((), NoName, "need gains ann 0"),
        ):
            with self.subTest(lines=lines, line=line):
                desk, model = at_a_desk(lines)
                self.assertIs(self.assert_said(desk, model, line), refusal)


class Walks(DeskCase):
    """Long talks, by chance from a fixed source, of right and wrong lines."""

    NAMES = tuple("ann bo cy di ed fay gus hal ida jo kit lou may ned ola pia".split())
    RATIOS = ("0", "1", "2", "3", "1/2", "5/3", "7/4", "10", "123456789/1000", "-1", "2/4", "x")
    # Claimers come by two kinds of lines and go by three, so the former are drawn more often.
    KINDS = (*FORMS, *["claim"] * 5, *["part"] * 3)

    def drawn_word(self, source, slot, model):
        if slot == "R":
            return source.choice(self.RATIOS)
        if slot == "RULE":
            # Of turns nothing is promised among more than six.
            return source.choice(("gain", *words_for(len(model.names))))
        if slot != "NEW" and model.names and source.randrange(8):
            return source.choice(model.names)
        return source.choice(self.NAMES)

    def drawn_line(self, source, model):
        kind = source.choice(self.KINDS)
        words = [kind] + [self.drawn_word(source, slot, model) for slot in FORMS[kind]]
        return (" " * source.randrange(1, 3)).join(words)

    def test_walks(self):
        answered, refused = set(), set()
        for seed in range(40):
            source = random.Random(seed)
            desk, model = at_a_desk(())
            for step in range(150):
                # Now and then the estate is brought back to below the total.
                line = f"estate {sum(model.claims) / 3}" if step % 7 == 0 else self.drawn_line(source, model)
                refusal = self.assert_said(desk, model, line)
                answered |= {line.split()[0]} if refusal is None else set()
                refused.add(refusal)
        self.assertEqual(answered, set(FORMS))
        self.assertEqual(refused, {None, NoLine, NoText, NoRule, NoName, Known, NoAmount, TooMany, NoEstate})


if __name__ == "__main__":
    unittest.main()
