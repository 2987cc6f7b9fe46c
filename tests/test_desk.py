"""The desk: what it keeps [32], and what each line does and answers [33, 34]."""

import itertools
import math
import unittest
from fractions import Fraction

from helper import FOUR_WORDS, RULES, as_ratio, as_ratios, fractions, mixed_cases, mixed_claims, words_for
from leanestate.desk import Desk
from leanestate.errors import Known, NoAmount, NoEstate, NoLine, NoName, NoRule, NoText, TooMany
from leanestate.pairs import of_two
from leanestate.paths import needed
from leanestate.sharing import shared
from leanestate.turned import turned

NAMES = "ann bo cy di ed fay gus hal".split()


def desk_told(*lines):
    desk = Desk()
    for line in lines:
        answer = desk.say(line)
        assert answer == "ok", (line, answer)
    return desk


def desk_with(claims, estate):
    lines = [f"claim {name} {claim}" for name, claim in zip(NAMES, claims)]
    return desk_told(*lines, f"estate {estate}")


def can_be_read(number):
    return max(abs(number.numerator), number.denominator) < 10 ** 60


def desk_cases(every):
    """Mixed claims, and estates of them that can be told to a desk in one line."""
    for claims, estate in mixed_cases(every=every):
        yield claims, estate if can_be_read(estate) else Fraction(math.floor(1000 * estate), 1000)


def three_at_a_desk():
    return desk_with(fractions("1 2 3"), "4")


class DeskCase(unittest.TestCase):
    def assert_answers(self, desk, *said):
        for line, answer in said:
            self.assertEqual(desk.say(line), answer, line)
            self.assertIs(type(answer), str)


class Deeds(DeskCase):
    def test_at_first(self):
        self.assert_answers(Desk(), ("show", "estate 0"))

    def test_two_desks_keep_nothing_together(self):
        one = three_at_a_desk()
        other = Desk()
        self.assert_answers(other, ("show", "estate 0"), ("claim ann 7", "ok"))
        self.assert_answers(one, ("show", "estate 4, ann 1, bo 2, cy 3"))
        self.assert_answers(Desk(), ("show", "estate 0"))

    def test_show_as_the_document_has_it(self):
        self.assert_answers(
            Desk(), ("estate 5/2", "ok"), ("claim ann 1", "ok"), ("claim bo 3", "ok"),
            ("show", "estate 5/2, ann 1, bo 3"),
        )

    def test_claim(self):
        self.assert_answers(
            Desk(), ("claim cy 3", "ok"), ("claim ann 1/2", "ok"), ("claim bo 0", "ok"),
            ("show", "estate 0, cy 3, ann 1/2, bo 0"),
        )

    def test_names(self):
        self.assert_answers(
            Desk(), ("claim a 1", "ok"), ("claim abcdefgh 2", "ok"), ("claim zyxwvuts 3", "ok"), ("claim z 4", "ok"),
            ("claim claim 5", "ok"), ("claim estate 6", "ok"), ("claim none 7", "ok"), ("claim shares 8", "ok"),
            ("show", "estate 0, a 1, abcdefgh 2, zyxwvuts 3, z 4, claim 5, estate 6, none 7, shares 8"),
            ("drop estate", "ok"), ("more claim 1/2", "ok"), ("join none shares", "ok"),
            ("show", "estate 0, a 1, abcdefgh 2, zyxwvuts 3, z 4, claim 11/2, none 15"),
        )

    def test_more(self):
        self.assert_answers(
            three_at_a_desk(), ("more ann 1/2", "ok"), ("more cy 0", "ok"), ("more bo 5/2", "ok"),
            ("show", "estate 4, ann 3/2, bo 9/2, cy 3"), ("more ann 1/2", "ok"),
            ("show", "estate 4, ann 2, bo 9/2, cy 3"),
        )

    def test_drop(self):
        self.assert_answers(
            three_at_a_desk(), ("drop bo", "ok"), ("show", "estate 4, ann 1, cy 3"), ("drop cy", "ok"),
            ("show", "estate 4, ann 1"), ("drop ann", "ok"), ("show", "estate 4"),
        )

    def test_who_goes_and_comes_anew_stands_behind_the_others(self):
        self.assert_answers(
            three_at_a_desk(), ("drop ann", "ok"), ("claim ann 5", "ok"), ("show", "estate 4, bo 2, cy 3, ann 5"),
            ("join cy bo", "ok"), ("part ann bo 1", "ok"), ("show", "estate 4, cy 5, ann 4, bo 1"),
            ("leave cy gains", "3/2"), ("claim cy 1/7", "ok"), ("show", "estate 5/2, ann 4, bo 1, cy 1/7"),
            ("share gains", "ann 19/14, bo 1, cy 1/7"), ("share losses", "ann 5/2, bo 0, cy 0"),
        )

    def test_part(self):
        self.assert_answers(
            three_at_a_desk(), ("part bo di 1/2", "ok"), ("show", "estate 4, ann 1, bo 3/2, cy 3, di 1/2"),
            ("part cy ed 0", "ok"), ("part cy fay 3", "ok"),
            ("show", "estate 4, ann 1, bo 3/2, cy 0, di 1/2, ed 0, fay 3"), ("part cy gus 0", "ok"),
            ("show", "estate 4, ann 1, bo 3/2, cy 0, di 1/2, ed 0, fay 3, gus 0"),
        )

    def test_join_in_both_orders(self):
        self.assert_answers(three_at_a_desk(), ("join ann cy", "ok"), ("show", "estate 4, ann 4, bo 2"))
        self.assert_answers(three_at_a_desk(), ("join cy ann", "ok"), ("show", "estate 4, bo 2, cy 4"))
        self.assert_answers(
            three_at_a_desk(), ("join bo ann", "ok"), ("join bo cy", "ok"), ("show", "estate 4, bo 6"),
            ("share turns", "bo 4"),
        )

    def test_part_and_join_again(self):
        for amount in ("0", "1/3", "2"):
            self.assert_answers(
                three_at_a_desk(), (f"part bo new {amount}", "ok"), ("join bo new", "ok"),
                ("show", "estate 4, ann 1, bo 2, cy 3"),
            )

    def test_estate_and_grow(self):
        self.assert_answers(
            three_at_a_desk(), ("estate 1/2", "ok"), ("show", "estate 1/2, ann 1, bo 2, cy 3"), ("grow 1/3", "ok"),
            ("show", "estate 5/6, ann 1, bo 2, cy 3"), ("grow 0", "ok"), ("grow 1/6", "ok"),
            ("show", "estate 1, ann 1, bo 2, cy 3"), ("estate 0", "ok"), ("show", "estate 0, ann 1, bo 2, cy 3"),
        )
        self.assert_answers(Desk(), ("grow 7", "ok"), ("show", "estate 7"), ("estate 99", "ok"), ("show", "estate 99"))

    def test_the_estate_may_come_to_more_than_the_total(self):
        for deed in ("drop cy", "estate 7", "grow 5/2"):
            desk = three_at_a_desk()
            self.assert_answers(desk, (deed, "ok"))
            for line in ("share gains", "turned gains", "two gains ann bo", "leave ann gains"):
                self.assertRaises(NoEstate, desk.say, line)
            self.assert_answers(
                desk, ("need gains bo 3/2", "4" if deed != "drop cy" else "5/2"), ("more bo 9", "ok"),
                ("need gains bo 0", "0"), ("claim di 0", "ok"), ("part bo ed 1", "ok"), ("join bo ed", "ok"),
            )
            self.assertTrue(desk.say("share gains").startswith("ann 1, "))

    def test_leave(self):
        for rule, part, shown_then in (
            ("shares", "4/3", "estate 8/3, ann 1, cy 3"), ("gains", "3/2", "estate 5/2, ann 1, cy 3"),
            ("losses", "4/3", "estate 8/3, ann 1, cy 3"), ("halves", "5/4", "estate 11/4, ann 1, cy 3"),
            ("turns", "7/6", "estate 17/6, ann 1, cy 3"),
        ):
            self.assert_answers(three_at_a_desk(), (f"leave bo {rule}", part), ("show", shown_then))

    def test_leave_till_nobody_is_left(self):
        for rule in RULES:
            for order in itertools.permutations(("ann", "bo", "cy")):
                desk = three_at_a_desk()
                together = sum(Fraction(desk.say(f"leave {name} {rule}")) for name in order)
                self.assertEqual(together, 4)
                self.assert_answers(desk, ("show", "estate 0"), (f"share {rule}", "none"), (f"turned {rule}", "none"))

    def test_those_who_stay_get_as_before(self):
        for claims, estate in desk_cases(40):
            for rule, name in itertools.product(FOUR_WORDS, NAMES[:len(claims)]):
                desk = desk_with(claims, estate)
                before = desk.say(f"share {rule}").split(", ")
                part = desk.say(f"leave {name} {rule}")
                self.assertIn(f"{name} {part}", before)
                before.remove(f"{name} {part}")
                self.assertEqual(desk.say(f"share {rule}"), ", ".join(before) or "none")


class Questions(DeskCase):
    def test_known_ones(self):
        self.assert_answers(
            three_at_a_desk(), ("share shares", "ann 2/3, bo 4/3, cy 2"), ("share gains", "ann 1, bo 3/2, cy 3/2"),
            ("share losses", "ann 1/3, bo 4/3, cy 7/3"), ("share halves", "ann 1/2, bo 5/4, cy 9/4"),
            ("share turns", "ann 2/3, bo 7/6, cy 13/6"), ("turned shares", "ann 2/3, bo 4/3, cy 2"),
            ("turned gains", "ann 1/3, bo 4/3, cy 7/3"), ("turned losses", "ann 1, bo 3/2, cy 3/2"),
            ("turned halves", "ann 1/2, bo 5/4, cy 9/4"), ("turned turns", "ann 2/3, bo 7/6, cy 13/6"),
            ("two gains ann cy", "1 3/2"), ("two gains cy ann", "3/2 1"), ("two turns ann cy", "1/2 7/3"),
            ("two turns cy ann", "7/3 1/2"), ("two turns bo cy", "7/6 13/6"), ("need gains cy 3/2", "4"),
            ("need losses ann 1/2", "9/2"), ("need halves cy 2", "7/2"), ("need shares bo 2", "6"),
            ("show", "estate 4, ann 1, bo 2, cy 3"),
        )

    def test_nobody(self):
        for rule in RULES:
            self.assert_answers(Desk(), (f"share {rule}", "none"), (f"turned {rule}", "none"), ("show", "estate 0"))

    def test_one_claimer_and_claims_of_nought(self):
        desk = desk_told("claim ann 0")
        for rule in RULES:
            self.assert_answers(desk, (f"share {rule}", "ann 0"), (f"turned {rule}", "ann 0"))
        self.assert_answers(desk, ("claim bo 0", "ok"))
        for rule in RULES:
            self.assert_answers(desk, (f"share {rule}", "ann 0, bo 0"), (f"two {rule} bo ann", "0 0"))
        for rule in FOUR_WORDS:
            self.assert_answers(desk, (f"need {rule} bo 0", "0"))

    def test_need_whatever_the_estate_is(self):
        desk = three_at_a_desk()
        for estate in ("0", "1", "6", "7", "99/7"):
            self.assert_answers(
                desk, (f"estate {estate}", "ok"), ("need gains cy 3/2", "4"), ("need losses ann 1/2", "9/2"),
                ("need halves cy 3", "6"), ("need shares ann 0", "0"), ("show", f"estate {estate}, ann 1, bo 2, cy 3"),
            )

    def test_against_the_functions(self):
        for claims, estate in desk_cases(25):
            desk = desk_with(claims, estate)
            listed = as_ratios(claims)
            before = desk.say("show")
            for rule in words_for(len(claims)):
                parts = shared(rule, listed, as_ratio(estate))
                self.assertEqual(desk.say(f"share {rule}"), self.written(parts))
                self.assertEqual(desk.say(f"turned {rule}"), self.written(turned(rule, listed, as_ratio(estate))))
                for one, other in list(itertools.permutations(range(len(claims)), 2))[::3]:
                    amount = Fraction(*parts[one]) + Fraction(*parts[other])
                    both = of_two(rule, listed[one], listed[other], as_ratio(amount))
                    answer = desk.say(f"two {rule} {NAMES[one]} {NAMES[other]}")
                    self.assertEqual(answer, " ".join(str(Fraction(*part)) for part in both))
            self.assertEqual(desk.say("show"), before)

    def test_need_against_the_function(self):
        for claims in mixed_claims():
            desk = desk_with(claims, 7)
            for rule, claimer in itertools.product(FOUR_WORDS, range(len(claims))):
                for amount in (claims[claimer] / 3, claims[claimer]):
                    answer = desk.say(f"need {rule} {NAMES[claimer]} {amount}")
                    wanted = needed(rule, as_ratios(claims), claimer, as_ratio(amount))
                    self.assertEqual(answer, str(Fraction(*wanted)))

    def written(self, parts):
        return ", ".join(f"{name} {Fraction(*part)}" for name, part in zip(NAMES, parts)) or "none"


class ManyFigures(DeskCase):
    def test_numbers_may_come_to_more_figures_than_are_read(self):
        most = 10 ** 60 - 1
        self.assert_answers(
            Desk(), (f"claim ann {most}", "ok"), (f"more ann {most}", "ok"), (f"claim bo 1/{most}", "ok"),
            (f"claim cy 1/{most - 1}", "ok"), ("join bo cy", "ok"), (f"estate {most}", "ok"), (f"grow {most}", "ok"),
            ("show", f"estate {2 * most}, ann {2 * most}, bo {Fraction(1, most) + Fraction(1, most - 1)}"),
            ("share gains", f"ann {2 * most - Fraction(1, most) - Fraction(1, most - 1)}, "
                            f"bo {Fraction(1, most) + Fraction(1, most - 1)}"),
            (f"need gains ann {most}", str(most + Fraction(1, most) + Fraction(1, most - 1))),
        )

    def test_hundreds_and_thousands_of_figures(self):
        desk = desk_told("claim ann 0", "claim bo 5")
        claim = Fraction(0)
        for place in range(40):
            more = Fraction(10 ** 59 + 7 * place, 10 ** 59 + 9 * place + 1)
            claim += more
            self.assert_answers(desk, (f"more ann {more}", "ok"))
        self.assertGreater(claim.denominator, 10 ** 1000)
        self.assert_answers(
            desk, ("show", f"estate 0, ann {claim}, bo 5"), ("estate 20", "ok"), ("share gains", "ann 15, bo 5"),
            ("share shares", f"ann {claim * 20 / (claim + 5)}, bo {100 / (claim + 5)}"),
            ("two halves bo ann", "5/2 35/2"), ("turned losses", "ann 15, bo 5"),
            ("need losses bo 1", str(claim - 3)), ("leave bo halves", "5/2"), ("show", f"estate 35/2, ann {claim}"),
        )


class Blanks(DeskCase):
    def test_blanks_ahead_behind_and_between(self):
        self.assert_answers(
            Desk(), ("  claim ann 1", "ok"), ("claim   bo    2", "ok"), ("claim cy 3 ", "ok"),
            ("     claim  di         0      ", "ok"), (" estate  4 ", "ok"),
            ("show ", "estate 4, ann 1, bo 2, cy 3, di 0"), (" show", "estate 4, ann 1, bo 2, cy 3, di 0"),
            ("   grow   1 ", "ok"), (" drop  di ", "ok"),
            ("  share   gains  ", "ann 1, bo 2, cy 2"), (" turned  gains ", "ann 2/3, bo 5/3, cy 8/3"),
            ("  two  gains  cy   ann ", "2 1"), (" need   gains   cy   3/2 ", "4"), (" more  ann   1 ", "ok"),
            (" part  cy  ed   1 ", "ok"), ("  join   bo  ed ", "ok"), ("show", "estate 5, ann 2, bo 3, cy 2"),
            ("  leave   bo   gains  ", "5/3"), (" " * 3000 + "show" + " " * 900, "estate 10/3, ann 2, cy 2"),
        )

    def test_nothing_but_blanks(self):
        for line in ("", " ", "    ", " " * 4000):
            self.assertRaises(NoLine, three_at_a_desk().say, line)

    def test_other_blank_signs_are_parts_of_words(self):
        for sign in "\t\n\r\v\f\x1c\x1d\x1e\x1f\x85\xa0\u1680\u2003\u2028\u2029\u202f\u205f\u3000\u200b\ufeff\0":
            desk = three_at_a_desk()
            for refusal, line in (
                (NoLine, "{}"), (NoLine, "show{}"), (NoLine, "{}show"), (NoLine, "show {}"), (NoLine, "{} show"),
                (NoLine, "drop{}ann"), (NoLine, "drop ann {}"), (NoName, "drop {}"), (NoName, "drop ann{}"),
                (NoName, "drop {}ann"), (NoName, "claim d{}i 1"), (NoLine, "claim di{}1"), (NoText, "claim di 1{}"),
                (NoText, "claim di {}1"), (NoText, "claim di {}"), (NoName, "claim {}di 1"), (NoRule, "share gains{}"),
                (NoRule, "share {}gains"), (NoRule, "share {}"), (NoLine, "share{}gains"),
                (NoLine, "two gains ann{}bo"), (NoName, "two gains ann{} bo"), (NoName, "two gains ann ann{}"),
                (NoName, "join ann ann{}"),
            ):
                with self.subTest(sign=sign, line=line):
                    self.assertRaises(refusal, desk.say, line.format(sign))
            self.assert_answers(desk, ("show", "estate 4, ann 1, bo 2, cy 3"))


class NineClaimers(DeskCase):
    def test_by_claim_and_by_part(self):
        desk = desk_with(fractions("1 2 3 4 5 6 7 8"), "9")
        before = desk.say("show")
        for line in ("claim ida 1", "claim ida 0", "part ann ida 1", "part hal ida 0"):
            self.assertRaises(TooMany, desk.say, line)
            self.assertEqual(desk.say("show"), before)
        self.assertRaises(Known, desk.say, "claim ann 1")
        self.assertRaises(NoAmount, desk.say, "claim ida -1")
        self.assert_answers(
            desk, ("drop ann", "ok"), ("part hal ida 1", "ok"),
            ("show", "estate 9, bo 2, cy 3, di 4, ed 5, fay 6, gus 7, hal 7, ida 1"),
        )
        self.assertRaises(TooMany, desk.say, "claim ann 1")
        self.assert_answers(desk, ("join bo cy", "ok"), ("claim ann 1", "ok"))
        self.assertRaises(TooMany, desk.say, "part bo cy 1")
        self.assert_answers(desk, ("leave gus losses", "14/5"))
        self.assert_answers(desk, ("part bo cy 1", "ok"))

    def test_eight_are_shared_among(self):
        desk = desk_with(fractions("1 1 1 1 1 1 1 1"), "4")
        for rule in FOUR_WORDS:
            self.assert_answers(desk, (f"share {rule}", ", ".join(f"{name} 1/2" for name in NAMES)))


if __name__ == "__main__":
    unittest.main()
