"""What several tests share: numbers out of fractions, and looks at the form of what is told."""

from fractions import Fraction
from math import gcd


def num(top, bottom=1):
    """A number made by Python's own fractions, not by the program."""
    one = Fraction(top, bottom)
    return (one.numerator, one.denominator)


def nums(*tops):
    return [num(Fraction(top)) for top in tops]


def cur(*tops):
    return tuple(nums(*tops))


def frac(one):
    return Fraction(one[0], one[1])


def check_number(test, told):
    test.assertIs(type(told), tuple)
    test.assertEqual(len(told), 2)
    for part in told:
        test.assertIs(type(part), int)
    test.assertGreaterEqual(told[1], 1)
    test.assertEqual(gcd(told[0], told[1]), 1)


def check_curve(test, told):
    test.assertIs(type(told), tuple)
    test.assertLessEqual(len(told), 13)
    for one in told:
        check_number(test, one)
    if told:
        test.assertNotEqual(told[-1][0], 0)


def worth_by_powers(curve, x):
    return sum((frac(one) * frac(x) ** place for place, one in enumerate(curve)), Fraction(0))
