"""Ratios as texts [6]: how they are written, what is read, what is refused."""

import itertools
import math
import re
import unittest

from leanestate.errors import NoText
from leanestate.texts import read, shown

SIXTY = int("9" * 60)
STRANGE = (
    "a", "Z", "+", "-", "/", ".", ",", "_", "e", "x", "\\", "'", "\0", "\t", "\n", "\r", "\x0b", "\x1f", "\x7f",
    "\u00a0", "\u00b2", "\u00bd", "\u0663", "\u0967", "\u2003", "\u200b", "\u2044", "\u2160", "\u2212", "\u2460",
    "\uff11", "\U0001d7d7",
)
WRITTEN = (
    ((0, 1), "0"), ((1, 1), "1"), ((-1, 1), "-1"), ((10, 1), "10"), ((-300, 1), "-300"), ((-5, 3), "-5/3"),
    ((1, 2), "1/2"), ((5, 2), "5/2"), ((100, 101), "100/101"), ((-7, 10), "-7/10"),
    ((SIXTY, 1), "9" * 60), ((-SIXTY, 1), "-" + "9" * 60),
    ((1, SIXTY), "1/" + "9" * 60), ((-1, SIXTY), "-1/" + "9" * 60),
    ((SIXTY - 1, SIXTY), "9" * 59 + "8/" + "9" * 60), ((-SIXTY, SIXTY - 1), "-" + "9" * 60 + "/" + "9" * 59 + "8"),
    ((10 ** 59, 10 ** 59 + 1), "1" + "0" * 59 + "/1" + "0" * 58 + "1"),
)


def meant(text):
    form = re.fullmatch("(0|-?[1-9][0-9]*)(?:/([1-9][0-9]*))?", text)
    if form is None:
        return None
    top = int(form[1])
    if form[2] is None:
        return (top, 1)
    bottom = int(form[2])
    return (top, bottom) if bottom > 1 and math.gcd(top, bottom) == 1 else None


def texts_of(signs, length):
    return ["".join(chosen) for chosen in itertools.product(signs, repeat=length)]


class Written(unittest.TestCase):
    def test_known_ones(self):
        for one, text in WRITTEN:
            with self.subTest(text=text):
                self.assertIs(type(shown(one)), str)
                self.assertEqual(shown(one), text)

    def test_as_many_figures_as_it_needs(self):
        self.assertEqual(shown((10 ** 299, 1)), "1" + "0" * 299)
        self.assertEqual(shown((-(10 ** 299), 10 ** 299 + 1)), "-1" + "0" * 299 + "/1" + "0" * 298 + "1")
        self.assertEqual(shown((10 ** 3999, 10 ** 3999 - 1)), "1" + "0" * 3999 + "/" + "9" * 3999)


class Read(unittest.TestCase):
    def test_known_ones(self):
        for one, text in WRITTEN:
            with self.subTest(text=text):
                answer = read(text)
                self.assertIs(type(answer), tuple)
                self.assertEqual([type(number) for number in answer], [int, int])
                self.assertEqual(answer, one)

    def test_what_is_written_is_read_again(self):
        tops = list(range(-130, 131)) + [10 ** 30 + 1, -(10 ** 30) - 1, SIXTY, -SIXTY, 10 ** 59, -(10 ** 59)]
        bottoms = list(range(1, 60)) + [10 ** 30, SIXTY, SIXTY - 1, 10 ** 59]
        for top in tops:
            for bottom in bottoms:
                if math.gcd(top, bottom) == 1:
                    self.assertEqual(read(shown((top, bottom))), (top, bottom))

    def test_all_short_texts(self):
        for length in range(6):
            for text in texts_of("0126-/+ ", length):
                wanted = meant(text)
                if wanted is None:
                    with self.subTest(text=text), self.assertRaises(NoText):
                        read(text)
                else:
                    self.assertEqual(read(text), wanted)


class Refused(unittest.TestCase):
    def assert_refused(self, texts):
        for text in texts:
            with self.subTest(text=text), self.assertRaises(NoText):
                read(text)

    def test_the_ones_of_the_document(self):
        self.assert_refused(("6/4", "3/1", "-0", "+2"))

    def test_not_in_lowest_terms(self):
        self.assert_refused(("2/2", "0/1", "0/2", "-6/4", "-3/1", "10/15", "9" * 60 + "/3", "3/" + "9" * 60))

    def test_no_figures(self):
        self.assert_refused(("", "-", "/", "-/", "1/", "-1/", "/2", "-/2", "--", "//", " "))

    def test_a_nought_ahead(self):
        self.assert_refused(("00", "01", "-01", "007", "01/2", "1/02", "-01/2", "-1/02", "-00", "0" * 59 + "1"))

    def test_bottom_nought(self):
        self.assert_refused(("0/0", "1/0", "-1/0", "1/00", "1/-0", "-0/0"))

    def test_minus_signs(self):
        self.assert_refused(("1/-2", "-1/-2", "--1", "--1/2", "1/--2", "1-", "1-/2", "1/2-", "-0/3", "1-2"))

    def test_plus_signs(self):
        self.assert_refused(("+0", "+1/2", "1/+2", "-+1", "+-1", "2+"))

    def test_a_second_stroke(self):
        self.assert_refused(("1/2/3", "1//2", "/1/2", "1/2/", "6/3/2", "1/1/1"))

    def test_a_blank_anywhere(self):
        for text in ("0", "12", "-12", "5/3", "-12/35"):
            self.assert_refused(text[:place] + " " + text[place:] for place in range(len(text) + 1))

    def test_a_strange_sign_anywhere(self):
        for text in ("12", "-12/35"):
            for sign in STRANGE:
                more = {text[:place] + sign + text[place:] for place in range(len(text) + 1)}
                others = {text[:place] + sign + text[place + 1:] for place in range(len(text))}
                # A minus or a stroke in the right place makes another good text.
                good = {"-12", "-2", "1/2", "-12/35"}
                self.assert_refused(sorted((more | others) - good))

    def test_figures_of_other_scripts_alone(self):
        self.assert_refused(("\u0663", "\uff11\uff12", "\u00b2", "1/\u0663", "-\u0967"))

    def test_sixty_one_figures(self):
        many = "1" + "0" * 59 + "1"
        self.assert_refused((many, "-" + many, many + "/2", "-" + many + "/2", "1/" + many, "-1/" + many))
        self.assert_refused((many + "/" + many[:-1] + "2", "0" * 61, "0" + "9" * 60, "1/0" + "9" * 60))

    def test_four_thousand_signs(self):
        self.assert_refused(("9" * 4000, "-" + "9" * 3999, "1/" + "9" * 3998, " " * 4000, "/" * 4000, "-" * 4000))


if __name__ == "__main__":
    unittest.main()
