"""Points 31 and 32: numbers and curves, written and read."""

import itertools
import re
import unittest
from fractions import Fraction
from math import gcd
from random import Random

from helpers import check_curve, check_number, cur, num, refused
from neverbelow.errors import NoText
from neverbelow.texts import read_curve, read_number, show_curve, show_number

HALF = Fraction(1, 2)
THIRD = Fraction(1, 3)
TWELVE = 10 ** 12 - 1
NO_TEXTS = (None, 0, 3, -1, True, False, (), (3, 1), ((3, 1),), [], ["3"], {}, {"3": 1}, b"3", 1.5)
NUMBERS = {
    "0": num(0), "3": num(3), "-1/2": num(-1, 2), "1": num(1), "-1": num(-1), "10": num(10), "-10": num(-10),
    "1/2": num(1, 2), "7/3": num(7, 3), "-22/7": num(-22, 7), "2/9": num(2, 9), "100/99": num(100, 99),
    "999999999999": num(TWELVE), "-999999999999": num(-TWELVE), "1/999999999999": num(1, TWELVE),
    "-999999999998/999999999999": num(1 - TWELVE, TWELVE), "1/10": num(1, 10), "5/12": num(5, 12),
}
CURVES = {
    "3 - 1/2 x + x^3": cur(3, -HALF, 0, 1), "-1/2 + x": cur(-HALF, 1), "-x^2": cur(0, 0, -1), "0": (),
    "1": cur(1), "-1": cur(-1), "x": cur(0, 1), "-x": cur(0, -1), "x^2": cur(0, 0, 1), "1 + x": cur(1, 1),
    "1 - x": cur(1, -1), "-1 - x": cur(-1, -1), "-1 + x": cur(-1, 1), "2 x": cur(0, 2), "-2 x": cur(0, -2),
    "1/2 x": cur(0, HALF), "-1/3 x^2": cur(0, 0, -THIRD), "7 + x^12": cur(7, *[0] * 11, 1),
    "x^12": cur(*[0] * 12, 1), "-x^12": cur(*[0] * 12, -1), "-3/7 x^12": cur(*[0] * 12, Fraction(-3, 7)),
    "x - x^2": cur(0, 1, -1), "-x + x^2": cur(0, -1, 1), "x + 1/2 x^2 - 1/3 x^3": cur(0, 1, HALF, -THIRD),
    "1/2 - x^10 - 11 x^11": cur(HALF, *[0] * 9, -1, -11), "10 x^10": cur(*[0] * 10, 10), "-7": cur(-7),
    "1/2": cur(HALF), "-22/7": cur(Fraction(-22, 7)), "1 + x + x^2": cur(1, 1, 1), "-x - x^2": cur(0, -1, -1),
    "-1/2 - 1/2 x - 1/2 x^2": cur(-HALF, -HALF, -HALF), "12 x": cur(0, 12), "21 x^2": cur(0, 0, 21),
    "999999999999 - 999999999999/999999999998 x": cur(TWELVE, Fraction(-TWELVE, TWELVE - 1)),
    "1 - x + 2 x^2 - 3 x^3 + 4 x^4 - 5 x^5 + 6 x^6 - 7 x^7 + 8 x^8 - 9 x^9 + 10 x^10 - 11 x^11 + 12 x^12":
        cur(1, -1, 2, -3, 4, -5, 6, -7, 8, -9, 10, -11, 12),
    "1 + x + x^2 + x^3 + x^4 + x^5 + x^6 + x^7 + x^8 + x^9 + x^10 + x^11 + x^12": cur(*[1] * 13),
    "-1 - x - x^2 - x^3 - x^4 - x^5 - x^6 - x^7 - x^8 - x^9 - x^10 - x^11 - x^12": cur(*[-1] * 13),
}
# Wrong as numbers, and as curves too.
WRONG_FOR_BOTH = (
    "", " ", "-", "+", "/", "^", "--1", "- 1", "+1", "+0", "-0", "00", "01", "-01", "007", "1 ", " 1", "-1 ", "1\n",
    "\n1",
    "1\t", "1.0", "1.5", "1e3", "0x1", "1_000", "1,5", "one", "2/4", "3/3", "6/3", "-2/4", "0/1", "0/2", "-0/2", "1/1",
    "5/1", "-5/1", "1/0", "0/0", "-1/0", "1/-2", "-1/-2", "1/+2", "1/02", "01/2", "1/2/3", "1//2", "/2", "1/", "-/2",
    "1 /2", "1/ 2", "1 / 2", "(1)", "1/2 ", " 1/2", "1000000000000", "-1000000000000", "1/1000000000000",
    "1000000000000/3", "0000000000001", "\u0661", "\u00bd", "\u00b2", "\uff11", "\u22121", "1\u00a0", "1/\u0662",
    "1\u20442", "1;2", "1 2", "1 1", "NaN", "None", "True", "1" * 400, "\x00", "1\x00", "'1'", "1/2x",
)
WRONG_CURVES = (
    "1 x", "-1 x", "1 x^2", "2 - 1 x", "2 + 1 x^3", "1/1 x", "0 x", "2 + 0 x", "0 + x", "0 - x", "0 x^2", "x + 0",
    "-0 x",
    "x^1", "x^0", "2 x^1", "2 x^0", "x^01", "x^02", "x^13", "x^20", "x^100", "2 x^13", "x^-1", "x^+2", "x^", "2 x^",
    "x^ 2",
    "x ^2", "x ^ 2", "x^2^2", "x2", "xx", "x x", "2 x x", "X", "y", "2 y", "x^x", "x^1/2", "x^999999999999",
    "x^1000000000000", "x + x", "x - x", "x + 2 x", "1 + 1", "1 + 2", "1 - 1", "x^2 + x^2", "x + 1", "x^2 + x",
    "x^2 + 1",
    "1 + x^3 + x^2", "2x", "2*x", "2 * x", "x 2", "x/2", "x /2", "1/2x", "2 x ", " 2 x", "2  x", "1  + x", "1 +  x",
    "1+x",
    "1 +x", "1+ x", "1 + x ", " 1 + x", "1 + ", "1 +", "1 -", "+ x", "+x", "- x", "-  x", "--x", "1 - -x", "1 + -x",
    "1 - - x", "1 + + x", "1 + - x", "1 - -1/2 x", "1 + -2 x", "1 2 x", "1 x 2", "1 + x - ", "2/4 x", "1 + 2/4 x",
    "4/2 x",
    "1/0 x", "1 - 0/3 x", "01 x", "1 + 02 x", "1000000000000 x", "1/1000000000000 x", "1\n+ x", "1 + x\n", "1 +\tx",
    "1 \u2212 x", "x\u00b2", "x^\u0662", "\u0662 x", "1\u00a0+ x", "\u0445", "1 + x + x", "x + x^2 + x", "- 1 + x",
    "1 + x^2 + x^2", "x * x", "(x)", "1 + (x)", "=x", "x;", "x^2.0", "x^12.", "x^012", "x^1e1", "1 + x + 0 x^2",
)
WHOLE = "[1-9][0-9]{0,11}"
SIZE = f"({WHOLE})(?:/({WHOLE}))?"
TERM = re.compile(f"(?:{SIZE})?(?:( ?)x(?:\\^([1-9][0-9]?))?)?", re.ASCII)


def is_size(match):
    top, bottom = match.group(1), match.group(2)
    return top is not None and (bottom is None or (int(bottom) > 1 and gcd(int(top), int(bottom)) == 1))


def is_number_text(text):
    """Whether point 32 lets this be read, by another way than the program's."""
    match = re.fullmatch(f"-?{SIZE}", text, re.ASCII)
    return text == "0" or (match is not None and is_size(match))


def power_of_term(term):
    """The power of a term that is written as it should be, without its sign; else None."""
    match = TERM.fullmatch(term)
    if term == "" or match is None or (match.group(1) is not None and not is_size(match)):
        return None
    if "x" not in term:
        return 0
    if (match.group(1) is None) != (match.group(3) == "") or (match.group(1), match.group(2)) == ("1", None):
        return None
    power = 1 if match.group(4) is None else int(match.group(4))
    return None if match.group(4) == "1" or power > 12 else power


def is_curve_text(text):
    terms = re.split(" [+-] ", text[1:] if text.startswith("-") else text)
    found = [power_of_term(term) for term in terms]
    return text == "0" or (None not in found and found == sorted(set(found)))


class ShowTest(unittest.TestCase):
    def test_numbers(self):
        for text, one in NUMBERS.items():
            self.assertEqual(show_number(one), text)
        self.assertEqual(show_number((10 ** 59 + 1, 10 ** 59)), f"{10 ** 59 + 1}/{10 ** 59}")

    def test_numbers_of_many_figures(self):
        top, bottom = 10 ** 3999 + 1, 10 ** 3998
        self.assertEqual(show_number((-top, bottom)), "-1" + "0" * 3998 + "1/1" + "0" * 3998)

    def test_curves(self):
        for text, curve in CURVES.items():
            self.assertEqual(show_curve(curve), text)

    def test_curves_with_great_numbers(self):
        great = 10 ** 59 + 1
        self.assertEqual(show_curve(cur(great, Fraction(-1, great))), f"{great} - 1/{great} x")


class ReadTest(unittest.TestCase):
    def test_numbers(self):
        for text, one in NUMBERS.items():
            told = read_number(text)
            check_number(self, told)
            self.assertEqual(told, one)

    def test_curves(self):
        for text, curve in CURVES.items():
            told = read_curve(text)
            check_curve(self, told)
            self.assertEqual(told, curve)

    def test_each_number_that_is_written_is_read_back(self):
        for top in range(-30, 31):
            for bottom in range(1, 20):
                self.assertEqual(read_number(show_number(num(top, bottom))), num(top, bottom))

    def test_each_curve_that_is_written_is_read_back(self):
        chance = Random(32)
        for again in range(400):
            tops = [chance.choice((0, 0, 1, -1, 2, chance.randint(-TWELVE, TWELVE))) for place in range(13)]
            bottoms = [chance.choice((1, 1, 2, chance.randint(1, TWELVE))) for place in range(13)]
            size = chance.randint(0, 13)
            numbers = [num(top, bottom) for top, bottom in zip(tops[:size], bottoms)]
            while numbers and numbers[-1][0] == 0:
                numbers.pop()
            curve = tuple(numbers)
            self.assertTrue(is_curve_text(show_curve(curve)))
            self.assertEqual(read_curve(show_curve(curve)), curve)

    def test_no_texts(self):
        for handed in NO_TEXTS:
            refused(self, NoText, read_number, handed)
            refused(self, NoText, read_curve, handed)

    def test_wrong_for_both(self):
        for text in WRONG_FOR_BOTH:
            refused(self, NoText, read_number, text)
            refused(self, NoText, read_curve, text)

    def test_wrong_curves(self):
        for text in WRONG_CURVES:
            refused(self, NoText, read_curve, text)
            refused(self, NoText, read_number, text)

    def test_curves_are_no_numbers(self):
        for text in CURVES:
            if "x" in text:
                refused(self, NoText, read_number, text)

    def test_twelve_figures(self):
        for size in range(1, 16):
            top, bottom = 10 ** size - 1, 10 ** size - 2
            texts = (f"{top}", f"-{top}", f"1/{top}", f"{top}/{bottom}", f"-{bottom}/{top}")
            for text in texts:
                if size <= 12:
                    self.assertEqual(show_number(read_number(text)), text)
                    self.assertEqual(show_curve(read_curve(f"{text} x")), f"{text} x")
                else:
                    refused(self, NoText, read_number, text)
                    for handed in (text, f"{text} x", f"{text} x^3", f"1 + x - {text.strip('-')} x^3"):
                        refused(self, NoText, read_curve, handed)

    def check_text(self, text):
        if is_number_text(text):
            self.assertEqual(show_number(read_number(text)), text)
        else:
            refused(self, NoText, read_number, text)
        if is_curve_text(text):
            self.assertEqual(show_curve(read_curve(text)), text)
        else:
            refused(self, NoText, read_curve, text)

    def test_all_short_texts(self):
        for size in range(1, 5):
            for signs in itertools.product("012x^/+- ", repeat=size):
                self.check_text("".join(signs))

    def test_each_sign_in_each_place(self):
        signs = [chr(code) for code in range(256)]
        for one in signs:
            for text in (one, one + "1", "1" + one, "1" + one + "2", "x" + one + "2", "2" + one + "x", "2 x^" + one):
                self.check_text(text)

    def test_longer_texts_with_faults(self):
        chance = Random(31)
        texts = sorted(CURVES)
        for again in range(6000):
            text = list(chance.choice(texts))
            for fault in range(chance.randint(1, 2)):
                place = chance.randrange(len(text) + 1)
                fresh = chance.choice("01234 x^/+-")
                text[place:place + chance.randint(0, 1)] = chance.choice(([], [fresh], [fresh]))
            self.check_text("".join(text))


class OtherWayTest(unittest.TestCase):
    """The other way of telling what may be read is itself held against what is written by hand."""

    def test_right_and_wrong_texts(self):
        for text in NUMBERS:
            self.assertTrue(is_number_text(text), text)
        for text in CURVES:
            self.assertTrue(is_curve_text(text), text)
        for text in WRONG_FOR_BOTH + WRONG_CURVES:
            self.assertFalse(is_number_text(text), text)
            self.assertFalse(is_curve_text(text), text)


if __name__ == "__main__":
    unittest.main()
