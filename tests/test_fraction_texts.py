"""Point [6]: the texts of fractions."""

import functools
import itertools
import random
import re
import unittest
from fractions import Fraction
from math import gcd

from fastestalong.errors import InvalidFraction, InvalidText
from fastestalong.fractions import fraction_text, fraction_told
from samples import NOT_FRACTIONS, ODD_VALUES, Word, pair

KNOWN = [
    ((0, 1), "0"), ((5, 1), "5"), ((-5, 1), "-5"), ((100, 1), "100"), ((1, 2), "0.5"), ((-1, 2), "-0.5"),
    ((-1, 8), "-0.125"), ((201, 20), "10.05"), ((1, 3), "1/3"), ((-7, 3), "-7/3"), ((1, 5), "0.2"),
    ((1, 10), "0.1"), ((1, 1000), "0.001"), ((1, 6), "1/6"), ((1, 15), "1/15"), ((10, 3), "10/3"),
    ((-21, 2), "-10.5"), ((401, 4), "100.25"), ((3, 40), "0.075"), ((1, 32), "0.03125"), ((1, 125), "0.008"),
    ((7, 14 * 10 ** 30 + 1), "7/14000000000000000000000000000001"),
    ((10 ** 89, 1), "1" + "0" * 89), ((1, 10 ** 89), "0." + "0" * 88 + "1"), ((1, 2 ** 3 * 5), "0.025"),
]
DIGITS = "0123456789"
TAILS = ["", "7", ".5", "/7"] + [
    "".join(signs) for many in (1, 2, 3) for signs in itertools.product(DIGITS, repeat=many)
]


def without(bottom, prime):
    while bottom % prime == 0:
        bottom //= prime
    return bottom


def is_text(text):
    """Whether some fraction has this text: told anew, by its form and its value."""
    if re.fullmatch(r"0|-?[1-9][0-9]*", text):
        return True
    if re.fullmatch(r"-?(0|[1-9][0-9]*)\.[0-9]*[1-9]", text):
        return True
    if not re.fullmatch(r"-?[1-9][0-9]*/[1-9][0-9]*", text):
        return False
    top, bottom = (int(part) for part in text.split("/"))
    return gcd(top, bottom) == 1 and without(without(bottom, 2), 5) > 1


@functools.lru_cache(maxsize=None)
def goes_on(text):
    """Whether some text begins so."""
    return any(is_text(text + tail) for tail in TAILS)


def index_told(text):
    """The index at which a text is none, None of a text."""
    for end in range(1, len(text) + 1):
        if not goes_on(text[:end]):
            return end - 1
    return None if is_text(text) else len(text)


def numbers_of(seed, many):
    """Fractions of all kinds of bottoms, up to 190 digits in all."""
    chance = random.Random(seed)
    told = [number for number, _ in KNOWN]
    while len(told) < many:
        size = 10 ** chance.choice((1, 3, 20, 94))
        bottom = chance.choice((1, 2 ** chance.randrange(40), 5 ** chance.randrange(40), 10 ** chance.randrange(90)))
        if chance.random() < 0.5:
            bottom = chance.randint(1, size)
        told.append(pair(Fraction(chance.randint(-size, size), bottom)))
    return told


class TestText(unittest.TestCase):
    def test_known_ones(self):
        for number, text in KNOWN:
            self.assertEqual(fraction_text(number), text)
            self.assertEqual(fraction_text(number=number), text)
            self.assertEqual(fraction_told(text), number)
            self.assertEqual(fraction_told(text=text), number)

    def test_there_and_back(self):
        seen = {}
        for number in numbers_of(1, 1500):
            text = fraction_text(number)
            self.assertIs(type(text), str)
            self.assertTrue(is_text(text), text)
            self.assertEqual(Fraction(text), Fraction(*number))
            self.assertEqual(fraction_told(text), number)
            self.assertEqual(seen.setdefault(text, number), number)

    def test_small_ones_there_and_back(self):
        for top in range(-60, 61):
            for bottom in range(1, 61):
                if gcd(top, bottom) == 1:
                    text = fraction_text((top, bottom))
                    self.assertTrue(is_text(text), text)
                    self.assertEqual(fraction_told(text), (top, bottom))

    def test_the_longest_ones(self):
        for number in (
            (1, 2 ** 600), (-3 ** 400, 2 ** 600), (1, 5 ** 280), (10 ** 200 - 1, 10 ** 199), (7, 3 ** 400),
            (10 ** 399, 1), (-10 ** 189 + 1, 10 ** 189),
        ):
            text = fraction_text(number)
            self.assertEqual(Fraction(text), Fraction(*number))
            self.assertEqual(fraction_told(text), number)

    def test_values_that_are_no_fractions(self):
        for value in NOT_FRACTIONS:
            with self.assertRaises(InvalidFraction):
                fraction_text(value)
            with self.assertRaises(InvalidFraction):
                fraction_text(number=value)


class TestTold(unittest.TestCase):
    def check(self, text, index):
        if index is None:
            top, bottom = fraction_told(text)
            self.assertEqual(Fraction(text), Fraction(top, bottom))
            self.assertEqual(fraction_text((top, bottom)), text)
            return
        for call in (lambda: fraction_told(text), lambda: fraction_told(text=text)):
            with self.assertRaises(InvalidText) as caught:
                call()
            self.assertEqual(caught.exception.index, index, repr(text))
            self.assertIs(type(caught.exception.index), int)

    def test_named_edges(self):
        for text, index in [
            ("", 0), ("-", 1), ("-0", 2), ("--1", 1), ("00", 1), ("01", 1), ("-00", 2), ("-01", 2), ("+1", 0),
            (" 1", 0), ("1 ", 1), ("1\n", 1), ("\n", 0), (".", 0), (".5", 0), ("-.5", 1), ("5.", 2), ("0.", 2),
            ("0.0", 3), ("-0.0", 4), ("1.50", 4), ("1.500", 5), ("1..5", 2), ("1.5.", 3), ("1.5/3", 3), ("1.5-", 3),
            ("/", 0), ("/3", 0), ("-/3", 1), ("0/3", 1), ("-0/3", 2), ("3/", 2), ("3/0", 2), ("3/03", 2), ("3/-4", 2),
            ("3/4", 3), ("3/1", 3), ("3/3", 3), ("3/6", 3), ("6/3", 3), ("12/30", 5), ("7/10", 4), ("1/3/3", 3),
            ("1/3.", 3), ("1/3 ", 3), ("1/4 ", 3), ("1//3", 2), ("3/4x", 3), ("3 /4", 1), ("x", 0), ("1x", 1),
            ("1e5", 1), ("1_0", 1), ("0x1", 1), ("1,5", 1), ("1/3\n", 3), ("1.5\n", 3), ("-\n", 1), ("-5/10", 5),
            ("1/8", 3), ("1/80", 4), ("1/125", 5), ("1/2000", 6), ("21/14", 5), ("0.50", 4), ("100/", 4),
        ]:
            self.check(text, index)
            self.assertEqual(index_told(text), index, text)

    def test_all_short_texts(self):
        for signs, most in (("-01256./", 4), ("-035./", 5)):
            for many in range(most + 1):
                for told in itertools.product(signs, repeat=many):
                    text = "".join(told)
                    self.check(text, index_told(text))

    def test_other_signs_in_all_places(self):
        for text in ("0", "-12", "0.25", "-10.05", "7/3", "-10/21"):
            for sign in " \n\t+_e,:x~-./0'":
                for at in range(len(text) + 1):
                    changed = text[:at] + sign + text[at:]
                    self.check(changed, index_told(changed))

    def test_texts_cut_off_and_changed(self):
        chance = random.Random(2)
        for number in numbers_of(3, 250):
            text = fraction_text(number)
            for _ in range(4):
                at = chance.randrange(len(text))
                other = chance.randrange(len(text))
                sign = chance.choice("0123456789-./ \nx")
                first, second = sorted((at, other))
                swapped = list(text)
                swapped[at], swapped[other] = swapped[other], swapped[at]
                for changed in (
                    text[:at], text[at:], text[:at] + text[at + 1:], text[:at] + sign + text[at:],
                    text[:at] + sign + text[at + 1:], "".join(swapped), "0" + text, text + "0",
                    text[:first] + text[second:],
                ):
                    self.check(changed, index_told(changed))

    def test_quotients_that_have_another_text(self):
        for top in range(1, 40):
            for bottom in range(1, 40):
                text = f"{top}/{bottom}"
                is_told = gcd(top, bottom) == 1 and without(without(bottom, 2), 5) > 1
                self.check(text, None if is_told else len(text))
                self.check("-" + text, None if is_told else len(text) + 1)

    def test_values_that_are_no_strings(self):
        for value in ODD_VALUES + [b"", b"1", Word("1"), ["1"], ("1",), 1]:
            if type(value) is not str:
                self.check(value, 0)

    def test_long_texts(self):
        self.check("1" * 19999 + "x", 19999)
        self.check("-" * 20000, 1)
        self.check("0" * 20000, 1)
        self.check("." * 20000, 0)
        self.check("1." + "0" * 19998, 20000)
        self.check("3/" + "0" * 19998, 2)
        self.check("1/3" + " " * 19000, 3)

    def test_digits_beyond_ascii(self):
        self.check("1\u0663", 1)
        self.check("\u0663", 0)
        self.check("1.5\u00b2", 3)


if __name__ == "__main__":
    unittest.main()
