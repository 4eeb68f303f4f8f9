"""What several tests share: numbers out of fractions, and looks at the form of what is told."""

from fractions import Fraction
from math import comb, gcd

from neverbelow.errors import BelowError


def num(top, bottom=1):
    """A number made by Python's own fractions, not by the program."""
    one = Fraction(top, bottom)
    return (one.numerator, one.denominator)


def nums(*tops):
    return [num(Fraction(top)) for top in tops]


def cur(*tops):
    return tuple(nums(*tops))


def frac(one):
    return Fraction(one[0], one[1])


def check_number(test, told):
    test.assertIs(type(told), tuple)
    test.assertEqual(len(told), 2)
    for part in told:
        test.assertIs(type(part), int)
    test.assertGreaterEqual(told[1], 1)
    test.assertEqual(gcd(told[0], told[1]), 1)


def check_curve(test, told):
    test.assertIs(type(told), tuple)
    test.assertLessEqual(len(told), 13)
    for one in told:
        check_number(test, one)
    if told:
        test.assertNotEqual(told[-1][0], 0)


def worth_by_powers(curve, x):
    return sum((frac(one) * frac(x) ** place for place, one in enumerate(curve)), Fraction(0))


def check_numbers(test, told, size):
    test.assertIs(type(told), list)
    test.assertEqual(len(told), size)
    for one in told:
        check_number(test, one)


def refused(test, kind, own, *handed):
    """Refused with just this kind, which is a BelowError and a ValueError."""
    with test.assertRaises(BelowError) as caught:
        own(*handed)
    test.assertIs(type(caught.exception), kind, handed)
    test.assertIsInstance(caught.exception, ValueError)


def product(*curves):
    """The product, reckoned with Python's own fractions."""
    found = [Fraction(1)]
    for curve in curves:
        longer = [Fraction(0)] * (len(found) + len(curve) - 1)
        for place, one in enumerate(found):
            for step, other in enumerate(curve):
                longer[place + step] += one * frac(other)
        found = longer
    return cur(*found)


def powers(factors, exponents):
    return product(*[factor for factor, often in zip(factors, exponents) for again in range(often)])


def at_roots(*roots):
    """The curve with the last number 1 that is nought at these places, as often as they stand here."""
    return product(*[cur(-Fraction(root), 1) for root in roots])


def with_numbers_times(curve, factor):
    return cur(*[frac(one) * factor for one in curve])


def sum_of_mix(numbers, t):
    """The sum of point 11; t a fraction."""
    n = len(numbers) - 1
    return sum(
        (frac(one) * comb(n, k) * t ** k * (1 - t) ** (n - k) for k, one in enumerate(numbers)), Fraction(0)
    )


def is_mix(numbers, curve, low, high, degree):
    """Whether these are the mixing numbers: there is just one list of which the sum is right at degree + 1 places."""
    if len(numbers) != degree + 1:
        return False
    places = [Fraction(step, 3) for step in range(-1, degree + 1)]
    width = frac(high) - frac(low)
    return all(sum_of_mix(numbers, t) == worth_by_powers(curve, num(frac(low) + t * width)) for t in places)


def rest_by_fractions(one, by):
    rest = list(one)
    while len(rest) >= len(by):
        factor = rest[-1] / by[-1]
        for step in range(len(by)):
            rest[len(rest) - len(by) + step] -= factor * by[step]
        rest.pop()
    while rest and rest[-1] == 0:
        rest.pop()
    return rest


def changes_at(chain, x):
    signs = [sum(one * x ** place for place, one in enumerate(curve)) for curve in chain]
    signs = [one > 0 for one in signs if one != 0]
    return sum(1 for one, other in zip(signs, signs[1:]) if one != other)


def count_of_places(curve, low, high):
    """How many places of the stretch there are where the curve is nought, by Sturm's chain."""
    numbers = [frac(one) for one in curve]
    ends = 0
    for end in (frac(low), frac(high)):
        if worth_by_powers(curve, num(end)) == 0:
            ends += 1
        while sum(one * end ** place for place, one in enumerate(numbers)) == 0:
            shorter = []
            for one in reversed(numbers[1:]):
                shorter.append(one + end * (shorter[-1] if shorter else 0))
            numbers = shorter[::-1]
    chain = [numbers, [one * place for place, one in enumerate(numbers)][1:]]
    while chain[-1]:
        chain.append([-one for one in rest_by_fractions(chain[-2], chain[-1])])
    return ends + changes_at(chain, frac(low)) - changes_at(chain, frac(high))
