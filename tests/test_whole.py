"""Point 3: what is promised over the whole program, asked of all its parts together."""

import unittest
from fractions import Fraction
from random import Random

from helpers import check_squares, check_verdict, cur, frac, less_number, num, product, sign_of_fraction, shortest
from helpers import worth_by_powers
from neverbelow.crossings import meetings, sides
from neverbelow.curves import moved, multiplied, stretched, taken
from neverbelow.desk import Desk
from neverbelow.errors import NoCurve
from neverbelow.extremes import greatest, least
from neverbelow.maps import holds, near_to
from neverbelow.pieces import plainest, row_least, row_of, row_verdict
from neverbelow.squares import always, are_squares, bound, squares
from neverbelow.texts import read_curve
from neverbelow.verdicts import shown, verdict

# Factors as texts, with the places where each is nought: exact fractions, or bounds that no fraction asked
# about here lies between.
ROOT = Fraction(14142135623730950488, 10 ** 19)
ROOT_TWO = (ROOT, ROOT + Fraction(1, 10 ** 19))
FACTORS = (
    ("x", [(Fraction(0), Fraction(0))]), ("-1 + x", [(Fraction(1), Fraction(1))]),
    ("1/2 + x", [(Fraction(-1, 2), Fraction(-1, 2))]), ("2 - 3 x", [(Fraction(2, 3), Fraction(2, 3))]),
    ("-2 + x^2", [(-ROOT_TWO[1], -ROOT_TWO[0]), ROOT_TWO]), ("1 + x^2", []), ("-1 - x^2", []), ("-3", []),
    ("1 + x + x^2", []), ("4 - x", [(Fraction(4), Fraction(4))]),
)
STRETCHES = ((-3, 5), (0, 1), (-1, 0), (Fraction(-1, 2), Fraction(2, 3)), (1, 2), (4, 7), (2, 3), (-2, 4))


def places_within(places, low, high):
    return sorted(place for place in set(places) if low <= place[0] and place[1] <= high)


def marks_between(places, low, high):
    """A fraction of each stretch between the places, and ahead of and behind them as far as there is one."""
    edges = [(low, low)] + [place for place in places if low < place[0] and place[1] < high] + [(high, high)]
    return [(one[1] + other[0]) / 2 for one, other in zip(edges, edges[1:])]


class Made:
    """A curve multiplied together at a desk from factors, with all that is known of it."""

    def __init__(self, chance):
        self.desk = Desk()
        self.desk.say("curve p 1")
        self.desk.say("curve nought 0")
        self.places = []
        factors = []
        degree = 0
        for again in range(chance.randint(1, 6)):
            text, places = chance.choice(FACTORS)
            factor = read_curve(text)
            for often in range(chance.choice((1, 1, 2, 3))):
                if degree + len(factor) - 1 <= 6:
                    self.desk.say(f"curve f {text}")
                    self.desk.say("multiply p f p")
                    self.places.extend(places)
                    factors.append(factor)
                    degree += len(factor) - 1
        self.curve = product(*factors)

    def signs(self, low, high):
        within = places_within(self.places, low, high)
        worths = [worth_by_powers(self.curve, num(mark)) for mark in marks_between(within, low, high)]
        return [sign_of_fraction(worth) for worth in worths]

    def word(self, low, high):
        if -1 in self.signs(low, high):
            return "below"
        return "touches" if places_within(self.places, low, high) else "above"

    def meeting_words(self, low, high):
        found = []
        for place in places_within(self.places, low, high):
            often = self.places.count(place)
            found.append("end" if place[0] in (low, high) else "touches" if often % 2 == 0 else "crosses")
        return found


class DeskWholeTest(unittest.TestCase):
    def text(self, one):
        top, bottom = num(one)
        return str(top) if bottom == 1 else f"{top}/{bottom}"

    def made(self, seed, count):
        chance = Random(seed)
        for again in range(count):
            made = Made(chance)
            low, high = chance.choice(STRETCHES)
            yield made, Fraction(low), Fraction(high), f"{self.text(low)} {self.text(high)}"

    def test_products_at_a_desk(self):
        for made, low, high, stretch in self.made(3, 120):
            self.assertEqual(read_curve(made.desk.say("show p")), made.curve)
            told = made.desk.say(f"verdict p {stretch}").split(" ")
            self.assertEqual(told[0], made.word(low, high))
            if told[0] == "below":
                self.assertTrue(low <= Fraction(told[1]) <= high)
                self.assertLess(worth_by_powers(made.curve, num(Fraction(told[1]))), 0)
            else:
                self.assertEqual(len(told), 1)

    def test_maps_and_meetings_at_a_desk(self):
        for made, low, high, stretch in self.made(33, 120):
            words = made.meeting_words(low, high)
            self.assertEqual(made.desk.say(f"meet p nought {stretch}"), " ".join(words) or "nowhere")
            told = made.desk.say(f"map p {stretch}")
            rows = [] if told == "none" else [word.split("..") for word in told.split(" ")]
            places = places_within(made.places, low, high)
            self.assertEqual(len(rows), len(places))
            for (start, end), place in zip(rows, places):
                self.assertTrue(Fraction(start) <= place[1] and place[0] <= Fraction(end))
            self.assertEqual(sides(made.curve, (), num(low), num(high)), made.signs(low, high))

    def test_least_at_a_desk(self):
        for made, low, high, stretch in self.made(333, 60):
            floor, place = [Fraction(word) for word in made.desk.say(f"least p {stretch} 1/1000").split(" ")]
            self.assertTrue(low <= place <= high)
            self.assertTrue(0 <= worth_by_powers(made.curve, num(place)) - floor <= Fraction(1, 1000))
            word = made.word(low, high)
            if word == "below":
                self.assertLess(floor, 0)
            elif word == "touches":
                self.assertTrue(Fraction(-1, 1000) <= floor <= 0)
            for mark in marks_between(places_within(made.places, low, high), low, high):
                self.assertLessEqual(floor, worth_by_powers(made.curve, num(mark)))

    def test_always_at_a_desk(self):
        for made, low, high, stretch in self.made(3333, 60):
            if len(made.curve) > 5:
                continue
            told = made.desk.say("always p").split(" ")
            self.assertEqual(told[0], made.word(Fraction(-9), Fraction(9)))
            if told[0] == "below":
                self.assertLess(worth_by_powers(made.curve, num(Fraction(told[1]))), 0)

    def test_moved_and_stretched_at_a_desk(self):
        for made, low, high, stretch in self.made(31, 40):
            made.desk.say("move p -5/3 m")
            made.desk.say("stretch p 3/4 s")
            c, k = Fraction(-5, 3), Fraction(3, 4)
            for name, ends in (("m", (low + c, high + c)), ("s", (low * k, high * k))):
                carried = " ".join(self.text(end) for end in ends)
                self.assertEqual(made.desk.say(f"verdict {name} {carried}").split(" ")[0], made.word(low, high))
                words = made.meeting_words(low, high)
                self.assertEqual(made.desk.say(f"meet {name} nought {carried}"), " ".join(words) or "nowhere")


def random_curve(chance, most):
    """Curves of all kinds: plain ones, ones with places twice, and sums of squares with and without more."""
    tops = [Fraction(chance.randint(-5, 5), chance.randint(1, 4)) for place in range(chance.randint(1, most + 1))]
    curve = shortest(tops)
    kind = chance.randrange(4)
    if kind == 0 or len(curve) == 0:
        return curve
    half = curve[:most // 2 + 1]
    while half and half[-1][0] == 0:
        half = half[:-1]
    if len(half) == 0:
        return curve
    square = product(half, half)
    return less_number(square, (0, Fraction(-1, 5), Fraction(1, 50))[kind - 1])


class NoContradictionTest(unittest.TestCase):
    def test_all_numbers(self):
        chance = Random(300)
        seen = set()
        for again in range(150):
            curve = random_curve(chance, 4)
            told = always(curve)
            seen.add(told[0])
            if curve == ():
                self.assertEqual(squares(curve), [])
                continue
            far = bound(curve)
            on_stretch = verdict(curve, (-far[0], far[1]), far)
            self.assertEqual(told[0], on_stretch[0])
            check_verdict(self, curve, (-far[0], far[1]), far, on_stretch)
            if told[0] == "below":
                self.assertLess(worth_by_powers(curve, told[1]), 0)
                with self.assertRaises(NoCurve):
                    squares(curve)
                continue
            self.check_squares_fit(curve, told)
        self.assertEqual(seen, {"above", "touches", "below"})

    def check_squares_fit(self, curve, told):
        some = squares(curve)
        check_squares(self, curve, some)
        self.assertIs(are_squares(curve, some), True)
        far = bound(curve)
        far = num(frac(far) + 1)
        floor = frac(least(curve, (-far[0], far[1]), far, num(1, 10 ** 6))[0])
        if told[0] == "above":
            check_squares(self, less_number(curve, frac(told[1])), told[2])
            # What can be taken off is never more than the least worth.
            self.assertLessEqual(frac(told[1]), floor + Fraction(1, 10 ** 6))
        else:
            check_squares(self, curve, told[1])
            self.assertTrue(Fraction(-1, 10 ** 6) <= floor <= 0)

    def test_a_stretch(self):
        chance = Random(301)
        for again in range(150):
            curve = random_curve(chance, 6)
            low = Fraction(chance.randint(-6, 3), 2)
            high = low + Fraction(chance.randint(1, 9), 3)
            low, high = num(low), num(high)
            told = verdict(curve, low, high)
            check_verdict(self, curve, low, high, told)
            signs = sides(curve, (), low, high)
            self.check_signs(curve, told, signs, low, high)
            self.check_least_fits(curve, told, low, high)

    def check_signs(self, curve, told, signs, low, high):
        if curve == ():
            self.assertEqual((told, signs), (("touches", []), []))
            return
        meet = meetings(curve, (), low, high)
        self.assertIs(holds(curve, low, high, meet[2]), True)
        # A place where the curve crosses nought, and one side below, mean below, and nothing else does.
        self.assertEqual(told[0] == "below", -1 in signs)
        if told[0] != "below":
            self.assertNotIn("crosses", meet[1])
            self.assertEqual(told[0] == "touches", len(meet[1]) > 0)
            self.assertIs(shown(curve, low, high, (told[0], meet[2])), True)
        self.assertEqual(meetings((), curve, low, high)[1], meet[1])
        self.assertEqual(sides((), curve, low, high), [-side for side in signs])

    def check_least_fits(self, curve, told, low, high):
        near = Fraction(1, 100)
        floor, place, shows = least(curve, low, high, num(near))
        check_verdict(self, less_number(curve, frac(floor)), low, high, shows)
        self.assertNotEqual(shows[0], "below")
        ceiling, top, shows = greatest(curve, low, high, num(near))
        self.assertNotEqual(shows[0], "below")
        self.assertLessEqual(frac(floor), frac(ceiling))
        if told[0] == "below":
            self.assertLess(frac(floor), 0)
        elif told[0] == "touches":
            self.assertTrue(-near <= frac(floor) <= 0)
        else:
            self.assertGreater(frac(floor), -near)

    def test_the_row_of_a_curves_pieces(self):
        chance = Random(302)
        for again in range(40):
            curve = random_curve(chance, 6)
            marks = sorted(chance.sample(range(-8, 9), chance.randint(2, 6)))
            marks = [num(mark, 3) for mark in marks]
            row = row_of([(low, high, curve) for low, high in zip(marks, marks[1:])])
            near = Fraction(1, 50)
            whole = least(curve, marks[0], marks[-1], num(near))
            floor, place = row_least(row, num(near))
            self.assertLessEqual(abs(frac(floor) - frac(whole[0])), near)
            self.assertTrue(0 <= worth_by_powers(curve, place) - frac(floor) <= near)
            above = less_number(curve, frac(floor))
            self.assertNotEqual(verdict(above, marks[0], marks[-1])[0], "below")
            self.assertEqual(row_verdict(row)[0], verdict(curve, marks[0], marks[-1])[0])
            self.assertEqual(plainest(row), ((marks[0], marks[-1], curve),))

    def test_meetings_of_moved_and_stretched_curves(self):
        chance = Random(303)
        for again in range(40):
            one, other = random_curve(chance, 6), random_curve(chance, 6)
            low, high = num(-2), num(chance.randint(-1, 3))
            told, signs = meetings(one, other, low, high), sides(one, other, low, high)
            c, k = num(5, 7), num(3, 5)
            ends = (num(frac(low) + frac(c)), num(frac(high) + frac(c)))
            self.assertEqual(meetings(moved(one, c), moved(other, c), *ends)[:2], told[:2])
            self.assertEqual(sides(moved(one, c), moved(other, c), *ends), signs)
            ends = (num(frac(low) * frac(k)), num(frac(high) * frac(k)))
            self.assertEqual(meetings(stretched(one, k), stretched(other, k), *ends)[:2], told[:2])
            self.assertEqual(sides(stretched(one, k), stretched(other, k), *ends), signs)

    def test_places_are_narrowed_as_near_as_asked(self):
        one, other = cur(0, 0, 0, 1), cur(1, 1)
        told = meetings(one, other, num(-2), num(2))
        curve = taken(one, other)
        for word, start, end, numbers in told[2]:
            if word == "place":
                start, end = near_to(curve, start, end, num(1, 10 ** 12))
                self.assertLessEqual(frac(end) - frac(start), Fraction(1, 10 ** 12))
                self.assertLess(worth_by_powers(curve, start) * worth_by_powers(curve, end), 0)
        self.assertEqual(told[1], ["crosses"])

    def test_squares_of_products_touch_where_curves_meet(self):
        chance = Random(304)
        for again in range(40):
            one, other = random_curve(chance, 2), random_curve(chance, 2)
            left = taken(one, other)
            told = meetings(one, other, num(-3), num(3))
            word = verdict(multiplied(left, left), num(-3), num(3))[0]
            if told == ("alike",):
                self.assertEqual((word, left), ("touches", ()))
            else:
                self.assertEqual(word, "touches" if told[1] else "above")


if __name__ == "__main__":
    unittest.main()
