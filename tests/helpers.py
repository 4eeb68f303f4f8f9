"""What several tests share: numbers out of fractions, and looks at the form of what is told."""

from fractions import Fraction
from math import comb, gcd

from neverbelow.common import plain
from neverbelow.curves import slope
from neverbelow.errors import BelowError


def num(top, bottom=1):
    """A number made by Python's own fractions, not by the program."""
    one = Fraction(top, bottom)
    return (one.numerator, one.denominator)


def nums(*tops):
    return [num(Fraction(top)) for top in tops]


def cur(*tops):
    return tuple(nums(*tops))


def frac(one):
    return Fraction(one[0], one[1])


def check_number(test, told):
    test.assertIs(type(told), tuple)
    test.assertEqual(len(told), 2)
    for part in told:
        test.assertIs(type(part), int)
    test.assertGreaterEqual(told[1], 1)
    test.assertEqual(gcd(told[0], told[1]), 1)


def check_curve(test, told):
    test.assertIs(type(told), tuple)
    test.assertLessEqual(len(told), 13)
    for one in told:
        check_number(test, one)
    if told:
        test.assertNotEqual(told[-1][0], 0)


def worth_by_powers(curve, x):
    return sum((frac(one) * frac(x) ** place for place, one in enumerate(curve)), Fraction(0))


def check_numbers(test, told, size):
    test.assertIs(type(told), list)
    test.assertEqual(len(told), size)
    for one in told:
        check_number(test, one)


def refused(test, kind, own, *handed):
    """Refused with just this kind, which is a BelowError and a ValueError."""
    with test.assertRaises(BelowError) as caught:
        own(*handed)
    test.assertIs(type(caught.exception), kind, handed)
    test.assertIsInstance(caught.exception, ValueError)


def product(*curves):
    """The product, reckoned with Python's own fractions."""
    found = [Fraction(1)]
    for curve in curves:
        longer = [Fraction(0)] * (len(found) + len(curve) - 1)
        for place, one in enumerate(found):
            for step, other in enumerate(curve):
                longer[place + step] += one * frac(other)
        found = longer
    return cur(*found)


def powers(factors, exponents):
    return product(*[factor for factor, often in zip(factors, exponents) for again in range(often)])


def at_roots(*roots):
    """The curve with the last number 1 that is nought at these places, as often as they stand here."""
    return product(*[cur(-Fraction(root), 1) for root in roots])


def with_numbers_times(curve, factor):
    return cur(*[frac(one) * factor for one in curve])


def sum_of_mix(numbers, t):
    """The sum of point 11; t a fraction."""
    n = len(numbers) - 1
    return sum(
        (frac(one) * comb(n, k) * t ** k * (1 - t) ** (n - k) for k, one in enumerate(numbers)), Fraction(0)
    )


def is_mix(numbers, curve, low, high, degree):
    """Whether these are the mixing numbers: there is just one list of which the sum is right at degree + 1 places."""
    if len(numbers) != degree + 1:
        return False
    places = [Fraction(step, 3) for step in range(-1, degree + 1)]
    width = frac(high) - frac(low)
    return all(sum_of_mix(numbers, t) == worth_by_powers(curve, num(frac(low) + t * width)) for t in places)


def rest_by_fractions(one, by):
    rest = list(one)
    while len(rest) >= len(by):
        factor = rest[-1] / by[-1]
        for step in range(len(by)):
            rest[len(rest) - len(by) + step] -= factor * by[step]
        rest.pop()
    while rest and rest[-1] == 0:
        rest.pop()
    return rest


def changes_at(chain, x):
    signs = [sum(one * x ** place for place, one in enumerate(curve)) for curve in chain]
    signs = [one > 0 for one in signs if one != 0]
    return sum(1 for one, other in zip(signs, signs[1:]) if one != other)


def count_of_places(curve, low, high):
    """How many places of the stretch there are where the curve is nought, by Sturm's chain."""
    numbers = [frac(one) for one in curve]
    ends = 0
    for end in (frac(low), frac(high)):
        if worth_by_powers(curve, num(end)) == 0:
            ends += 1
        while sum(one * end ** place for place, one in enumerate(numbers)) == 0:
            shorter = []
            for one in reversed(numbers[1:]):
                shorter.append(one + end * (shorter[-1] if shorter else 0))
            numbers = shorter[::-1]
    chain = [numbers, [one * place for place, one in enumerate(numbers)][1:]]
    while chain[-1]:
        chain.append([-one for one in rest_by_fractions(chain[-2], chain[-1])])
    return ends + changes_at(chain, frac(low)) - changes_at(chain, frac(high))


def clear(start, end, *numbers):
    """A clear row of a map, written by hand."""
    return ("clear", num(start), num(end), nums(*numbers))


def place(start, end, *numbers):
    """A place row of a map, written by hand."""
    return ("place", num(start), num(end), nums(*numbers))


def sign_of_fraction(one):
    return (one > 0) - (one < 0)


def check_one_sign(test, numbers):
    test.assertEqual(len({sign_of_fraction(frac(one)) for one in numbers} - {0}), 1)


def check_row(test, curve, row):
    test.assertIs(type(row), tuple)
    word, start, end, numbers = row
    check_number(test, start)
    check_number(test, end)
    at_start, at_end = worth_by_powers(curve, start), worth_by_powers(curve, end)
    if word == "clear":
        test.assertLess(frac(start), frac(end))
        check_numbers(test, numbers, len(curve))
        test.assertTrue(is_mix(numbers, curve, start, end, len(curve) - 1))
        check_one_sign(test, numbers)
        return
    test.assertEqual(word, "place")
    if start == end:
        test.assertEqual(numbers, [])
        test.assertEqual(at_start, 0)
        return
    test.assertLess(frac(start), frac(end))
    test.assertNotEqual(at_start, 0)
    test.assertNotEqual(at_end, 0)
    part = plain(curve)
    signs = [sign_of_fraction(worth_by_powers(part, one)) for one in (start, end)]
    test.assertEqual(sorted(signs), [-1, 1])
    check_numbers(test, numbers, len(part) - 1)
    test.assertTrue(is_mix(numbers, slope(part), start, end, len(part) - 2))
    check_one_sign(test, numbers)
    test.assertEqual(count_of_places(curve, start, end), 1)


def check_ends(test, curve, rows):
    points = [row[1] for row in rows if row[0] == "place" and row[1] == row[2]]
    test.assertEqual(len(points), len(set(points)))
    for row in rows:
        for end in row[1:3]:
            if row[0] == "clear" and worth_by_powers(curve, end) == 0:
                test.assertIn(end, points)


def check_map(test, curve, low, high, rows):
    """Looks through point 14 sentence by sentence, and counts the places by another way."""
    test.assertIs(type(rows), list)
    test.assertGreater(len(rows), 0)
    test.assertEqual(rows[0][1], low)
    test.assertEqual(rows[-1][2], high)
    for row, behind in zip(rows, rows[1:]):
        test.assertEqual(row[2], behind[1])
    for row in rows:
        check_row(test, curve, row)
    check_ends(test, curve, rows)
    places = [row for row in rows if row[0] == "place"]
    test.assertEqual(len(places), count_of_places(curve, low, high))


def check_verdict(test, curve, low, high, told):
    """Looks through point 17; as no two of its words are true at once, the one that stands is the right one."""
    test.assertIs(type(told), tuple)
    test.assertEqual(len(told), 2)
    word, shows = told
    if word == "below":
        check_number(test, shows)
        test.assertTrue(frac(low) <= frac(shows) <= frac(high))
        test.assertLess(worth_by_powers(curve, shows), 0)
        return
    test.assertIn(word, ("above", "touches"))
    if curve == ():
        test.assertEqual(told, ("touches", []))
        return
    check_map(test, curve, low, high, shows)
    test.assertEqual(word == "touches", any(row[0] == "place" for row in shows))
    for row in shows:
        for end in row[1:3]:
            test.assertGreaterEqual(worth_by_powers(curve, end), 0)
        if row[0] == "clear":
            test.assertGreaterEqual(min(frac(one) for one in row[3]), 0)


def shortest(fractions):
    found = list(fractions)
    while found and found[-1] == 0:
        found.pop()
    return cur(*found)


def less_number(curve, off):
    """The curve less a fraction."""
    first = frac(curve[0]) if curve else Fraction(0)
    return shortest([first - off] + [frac(one) for one in curve[1:]])


def sum_of_squares(some):
    """The curve that is the sum of weight times other times other, reckoned with Python's own fractions."""
    found = [Fraction(0)] * 25
    for weight, other in some:
        for place, one in enumerate(other):
            for step, again in enumerate(other):
                found[place + step] += frac(weight) * frac(one) * frac(again)
    return shortest(found)


def check_squares(test, curve, some):
    """Looks through point 20: squares of this curve."""
    test.assertIs(type(some), list)
    for one in some:
        test.assertIs(type(one), tuple)
        test.assertEqual(len(one), 2)
        check_number(test, one[0])
        test.assertGreater(one[0][0], 0)
        check_curve(test, one[1])
        test.assertNotEqual(one[1], ())
    test.assertEqual(sum_of_squares(some), curve)


def piece(low, high, curve):
    """A piece of a row, written by hand."""
    return (num(low), num(high), curve)


def pieces_at(marks, curves):
    return [piece(low, high, curve) for low, high, curve in zip(marks, marks[1:], curves)]


def steps(count):
    """Pieces of one length with a number each, so that each worth tells its piece."""
    return pieces_at(range(count + 1), [cur(place + 10) for place in range(count)])


def sum_of(one, other):
    """The sum of two curves, reckoned with Python's own fractions."""
    size = max(len(one), len(other))
    longer = [list(curve) + [(0, 1)] * (size - len(curve)) for curve in (one, other)]
    return shortest([frac(first) + frac(second) for first, second in zip(*longer)])
