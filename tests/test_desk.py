"""Point 33: the desk, its rows and what it refuses, in order."""

import itertools
import unittest
from fractions import Fraction

from helpers import cur, num, refused, worth_by_powers
from neverbelow.desk import Desk
from neverbelow.errors import BelowError, NoCurve, NoName, NoNear, NoNumber, NoRow, NoStretch, NoText, TooGreat
from neverbelow.maps import holds, map_of
from neverbelow.texts import read_curve, read_number, show_curve

# A stands for the name of a curve, K for a number, C for a name that is put.
FORMS = {
    "show": "A", "add": "AAC", "take": "AAC", "multiply": "AAC", "slope": "AC", "move": "AKC", "stretch": "AKC",
    "plain": "AC", "worth": "AK", "verdict": "AKK", "always": "A", "least": "AKKK", "greatest": "AKKK", "meet": "AAKK",
    "map": "AKK",
}
RIGHT = {"A": "a", "K": "K", "C": "c"}
CURVES = {
    "a": "3 - 1/2 x + x^3", "b": "-1 + x", "line": "x", "nought": "0", "one": "1", "root": "-2 + x^2", "seven": "x^7",
    "twelve": "x^12", "square": "1 - 2 x + x^2", "abcdefgh": "5", "six": "1 + x^6", "five": "x^5",
    "turn": "1/7 - 2 x + 1/3 x^3",
}
NAMES_THAT_ARE_NONE = (
    "", "A", "aA", "abcdefghi", "a1", "1", "a_b", "a-b", "\u00e4", "\u00df", "a\t", "\ta", "a\n", "\u0430", "-",
    "1/2", "A" * 8,
    "a" * 9, "a" * 300, "a.", "'a'", "\u00e9", "\u017f",
)
NUMBERS_THAT_ARE_NONE = (
    "", "a", "x", "2/4", "1/1", "1/0", "-0", "+1", "01", "1.5", "--1", "1000000000000", "1/1000000000000", "\u0661",
    "1\t",
    "\u00bd", "0x1", "1_0", "/2", "1/", "-",
)
NO_TEXTS = (None, 0, 3, True, (), ("show", "a"), [], ["show a"], {}, b"show a", 1.5)


def full_desk():
    desk = Desk()
    for name, text in CURVES.items():
        desk.say(f"curve {name} {text}")
    return desk


def right_words(form):
    """Words that fit a form; the numbers are a stretch and a nearness."""
    numbers = iter(("1", "2", "3"))
    return [next(numbers) if kind == "K" else RIGHT[kind] for kind in form]


class DeskCase(unittest.TestCase):
    def say(self, desk, row, wanted):
        told = desk.say(row)
        self.assertIs(type(told), str)
        self.assertEqual(told, wanted, row)

    def standing(self, desk):
        found = {}
        for name in list(CURVES) + ["c", "d", "put"]:
            try:
                found[name] = desk.say(f"show {name}")
            except NoName:
                found[name] = None
        return found

    def refuse(self, desk, kind, row):
        ahead = self.standing(desk)
        with self.assertRaises(BelowError, msg=row) as caught:
            desk.say(row)
        self.assertIs(type(caught.exception), kind, row)
        self.assertIsInstance(caught.exception, ValueError)
        self.assertEqual(self.standing(desk), ahead)


class RowsTest(DeskCase):
    def test_curves_are_kept_and_shown(self):
        desk = Desk()
        for name, text in CURVES.items():
            self.say(desk, f"curve {name} {text}", "ok")
        for name, text in CURVES.items():
            self.say(desk, f"show {name}", text)

    def test_a_name_that_is_put_anew(self):
        desk = Desk()
        self.say(desk, "curve a 3 - x", "ok")
        self.say(desk, "curve a x^2", "ok")
        self.say(desk, "show a", "x^2")
        self.say(desk, "add a a a", "ok")
        self.say(desk, "show a", "2 x^2")
        self.say(desk, "slope a a", "ok")
        self.say(desk, "show a", "4 x")

    def test_words_of_rows_are_names_too(self):
        desk = Desk()
        for name in ("curve", "show", "add", "greatest", "ok", "x", "alike", "z"):
            self.say(desk, f"curve {name} 3 - x", "ok")
            self.say(desk, f"show {name}", "3 - x")

    def test_a_curve_stays_though_that_it_was_made_of_is_put_anew(self):
        desk = full_desk()
        self.say(desk, "add b line c", "ok")
        self.say(desk, "curve b 100", "ok")
        self.say(desk, "show c", "-1 + 2 x")
        self.say(desk, "show line", "x")

    def test_curves_made_of_curves(self):
        desk = full_desk()
        for row, text in (
            ("add a b c", "2 + 1/2 x + x^3"), ("add b a c", "2 + 1/2 x + x^3"), ("take a b c", "4 - 3/2 x + x^3"),
            ("take b a c", "-4 + 3/2 x - x^3"), ("take a a c", "0"), ("multiply b b c", "1 - 2 x + x^2"),
            ("multiply a nought c", "0"), ("multiply six six c", "1 + 2 x^6 + x^12"), ("slope a c", "-1/2 + 3 x^2"),
            ("slope one c", "0"), ("slope nought c", "0"), ("slope twelve c", "12 x^11"),
            ("move square -1 c", "x^2"), ("move b 1/2 c", "-3/2 + x"), ("move nought 7 c", "0"),
            ("stretch root 2 c", "-2 + 1/4 x^2"), ("stretch b -1 c", "-1 - x"), ("stretch nought 1/2 c", "0"),
            ("plain square c", "-1 + x"), ("plain twelve c", "x"), ("plain one c", "1"), ("plain a c",
            "3 - 1/2 x + x^3"),
        ):
            self.say(desk, row, "ok")
            self.say(desk, "show c", text)
        for name, text in CURVES.items():
            self.say(desk, f"show {name}", text)

    def test_worths(self):
        desk = full_desk()
        self.say(desk, "worth a 1/2", "23/8")
        self.say(desk, "worth a 0", "3")
        self.say(desk, "worth b 1", "0")
        self.say(desk, "worth nought 5", "0")
        self.say(desk, "worth line -3/7", "-3/7")
        self.say(desk, "worth twelve -2", "4096")
        self.say(desk, "worth twelve 999999999999", str(999999999999 ** 12))

    def test_verdicts(self):
        desk = full_desk()
        self.say(desk, "verdict b 2 3", "above")
        self.say(desk, "verdict b 1 3", "touches")
        self.say(desk, "verdict square 0 3", "touches")
        self.say(desk, "verdict nought 0 3", "touches")
        for row, curve, low, high in (("verdict b 0 3", cur(-1, 1), 0, 3), ("verdict root 0 1", cur(-2, 0, 1), 0, 1)):
            self.check_below(desk.say(row), curve, low, high)

    def check_below(self, told, curve, low=None, high=None):
        word, place = told.split(" ")
        self.assertEqual(word, "below")
        place = Fraction(place)
        self.assertLess(worth_by_powers(curve, num(place)), 0)
        if low is not None:
            self.assertTrue(low <= place <= high)

    def test_always(self):
        desk = full_desk()
        self.say(desk, "curve round 1 + x^2", "ok")
        self.say(desk, "always round", "above")
        self.say(desk, "always one", "above")
        self.say(desk, "always square", "touches")
        self.say(desk, "always nought", "touches")
        self.check_below(desk.say("always b"), cur(-1, 1))
        self.check_below(desk.say("always root"), cur(-2, 0, 1))
        self.check_below(desk.say("always a"), cur(3, Fraction(-1, 2), 0, 1))

    def test_least_and_greatest(self):
        desk = full_desk()
        for name in ("a", "b", "one", "nought", "root", "six", "turn"):
            curve = read_curve(CURVES[name])
            samples = [worth_by_powers(curve, num(step, 8)) for step in range(-16, 17)]
            for near in ("1", "1/10", "1/999999999999"):
                floor, place = [Fraction(word) for word in desk.say(f"least {name} -2 2 {near}").split(" ")]
                self.assertTrue(-2 <= place <= 2)
                gap = worth_by_powers(curve, num(place)) - floor
                self.assertTrue(0 <= gap <= Fraction(near))
                self.assertLessEqual(floor, min(samples))
                top, place = [Fraction(word) for word in desk.say(f"greatest {name} -2 2 {near}").split(" ")]
                self.assertTrue(-2 <= place <= 2)
                gap = top - worth_by_powers(curve, num(place))
                self.assertTrue(0 <= gap <= Fraction(near))
                self.assertGreaterEqual(top, max(samples))

    def test_meet(self):
        desk = full_desk()
        self.say(desk, "meet a a 0 1", "alike")
        self.say(desk, "meet twelve twelve 0 1", "alike")
        self.say(desk, "meet line b 0 1", "nowhere")
        self.say(desk, "meet b nought 0 2", "crosses")
        self.say(desk, "meet b nought 1 2", "end")
        self.say(desk, "meet square nought 0 2", "touches")
        self.say(desk, "meet root nought -2 2", "crosses crosses")
        self.say(desk, "meet square b 1 2", "end end")
        self.say(desk, "meet square b 1 3", "end crosses")
        self.say(desk, "curve p 1 + x^6 + x^12", "ok")
        self.say(desk, "meet p twelve -1 1", "nowhere")
        self.say(desk, "multiply root square q", "ok")
        self.say(desk, "meet q nought -2 2", "crosses touches crosses")

    def test_map(self):
        desk = full_desk()
        self.say(desk, "map one 0 1", "none")
        self.say(desk, "map b 2 3", "none")
        self.say(desk, "map b 1 3", "1..1")
        self.say(desk, "curve p 3/4 - 2 x + x^2", "ok")
        self.say(desk, "map p 1/2 3/2", "1/2..1/2 3/2..3/2")
        for name in ("a", "b", "root", "square", "six"):
            curve = read_curve(CURVES[name])
            rows = map_of(curve, num(-3), num(3))
            self.assertIs(holds(curve, num(-3), num(3), rows), True)
            told = desk.say(f"map {name} -3 3")
            places = [] if told == "none" else [word.split("..") for word in told.split(" ")]
            wanted = [(one, other) for word, one, other, numbers in rows if word == "place"]
            self.assertEqual([(num(Fraction(one)), num(Fraction(other))) for one, other in places], wanted)

    def test_nothing_behind_the_blank(self):
        desk = full_desk()
        self.refuse(desk, NoText, "curve a ")
        self.refuse(desk, NoText, "curve new ")
        self.refuse(desk, NoName, "show new")


class RefusalsTest(DeskCase):
    def test_no_text(self):
        for handed in NO_TEXTS:
            self.refuse(full_desk(), NoRow, handed)

    def test_first_words(self):
        desk = full_desk()
        for row in (
            "", " ", "  ", "a", "shows a", "sho a", "Show a", "SHOW a", "show\ta", "\tshow a", " show a", "  show a",
            "curves a x", "Curve a x", "hello", "add", "say show a", "ok", "0", "/", "\n", "show\u00a0a", "none a",
            "divide a b c",
            "squares a", "split a c", "common a b c", "bound a", "scale a 2 c", "A", "narrow a 1 2",
        ):
            self.refuse(desk, NoRow, row)

    def test_number_of_words(self):
        desk = full_desk()
        for word, form in FORMS.items():
            words = [word] + right_words(form)
            desk.say(" ".join(words))
            for size in range(1, len(words)):
                self.refuse(desk, NoRow, " ".join(words[:size]))
            for behind in ("a", "1", "", "ok"):
                self.refuse(desk, NoRow, " ".join(words + [behind]))
        self.refuse(desk, NoRow, "curve")
        self.refuse(desk, NoRow, "curve a")
        self.refuse(desk, NoRow, "curve A")
        self.refuse(desk, NoRow, "curve ")

    def test_blanks_too_many(self):
        desk = full_desk()
        for word, form in FORMS.items():
            words = [word] + right_words(form)
            for place in range(len(words) + 1):
                self.refuse(desk, NoRow, " ".join(words[:place] + [""] + words[place:]))
        self.refuse(desk, NoRow, " curve a x")
        self.refuse(desk, NoName, "curve  a x")
        self.refuse(desk, NoName, "curve  ")
        self.refuse(desk, NoName, "curve  x")
        self.refuse(desk, NoText, "curve a  x")
        self.refuse(desk, NoText, "curve a x ")
        self.refuse(desk, NoText, "curve a  ")

    def test_a_word_without_signs_is_counted(self):
        desk = full_desk()
        self.refuse(desk, NoName, "show ")
        self.refuse(desk, NoName, "slope  c")
        self.refuse(desk, NoName, "slope a ")
        self.refuse(desk, NoName, "add a b ")
        self.refuse(desk, NoName, "add a  c")
        self.refuse(desk, NoText, "worth a ")
        self.refuse(desk, NoText, "move a  c")
        self.refuse(desk, NoText, "verdict a 1 ")
        self.refuse(desk, NoText, "verdict a  1")

    def test_no_row_goes_ahead(self):
        desk = full_desk()
        self.refuse(desk, NoRow, "show A b")
        self.refuse(desk, NoRow, "worth nobody one two")
        self.refuse(desk, NoRow, "verdict nobody 1/0")
        self.refuse(desk, NoRow, "curve A")

    def test_names_that_are_none(self):
        desk = full_desk()
        for name in NAMES_THAT_ARE_NONE:
            self.refuse(desk, NoName, f"curve {name} x")
            self.refuse(desk, NoName, f"show {name}")
            self.refuse(desk, NoName, f"add a b {name}")
            self.refuse(desk, NoName, f"add {name} b c")
            self.refuse(desk, NoName, f"move a 1 {name}")

    def test_small_letters_alone_make_names(self):
        for sign in [chr(code) for code in range(256) if chr(code) not in "abcdefghijklmnopqrstuvwxyz "]:
            for name in (sign, "a" + sign, sign + "a", "a" + sign + "b"):
                refused(self, NoName, Desk().say, f"curve {name} x")

    def test_names_by_which_no_curve_stands(self):
        desk = full_desk()
        for name in ("c", "nobody", "aa", "abcdefg", "x"):
            for row in (
                "show {}", "add {} a d", "add a {} d", "take {} a d", "take a {} d", "multiply {} a d",
                "multiply a {} d",
                "slope {} d", "move {} 1 d", "stretch {} 1 d", "plain {} d", "worth {} 1", "verdict {} 1 2",
                "always {}",
                "least {} 1 2 3", "greatest {} 1 2 3", "meet {} a 1 2", "meet a {} 1 2", "map {} 1 2",
            ):
                self.refuse(desk, NoName, row.format(name))
        self.refuse(Desk(), NoName, "show a")
        self.refuse(desk, NoName, "add a c c")

    def test_numbers_that_are_none(self):
        desk = full_desk()
        for word in NUMBERS_THAT_ARE_NONE:
            for row in (
                "worth a {}", "move a {} d", "stretch a {} d", "verdict a {} 2", "verdict a 1 {}", "least a {} 2 3",
                "least a 1 {} 3", "least a 1 2 {}", "greatest a {} 2 3", "greatest a 1 {} 3", "greatest a 1 2 {}",
                "meet a b {} 2", "meet a b 1 {}", "map a {} 2", "map a 1 {}",
            ):
                self.refuse(desk, NoText, row.format(word))

    def test_word_by_word_from_the_left(self):
        desk = full_desk()
        wrong = {"A": ("nobody", "A"), "K": ("2/4",), "C": ("C",)}
        kinds = {"A": NoName, "K": NoText, "C": NoName}
        for word, form in FORMS.items():
            rights = right_words(form)
            for faulty in itertools.product((False, True), repeat=len(form)):
                if any(faulty):
                    first = form[faulty.index(True)]
                    for choice in range(2):
                        words = [
                            wrong[kind][choice % len(wrong[kind])] if fault else right
                            for kind, fault, right in zip(form, faulty, rights)
                        ]
                        self.refuse(desk, kinds[first], " ".join([word] + words))

    def test_name_goes_ahead_of_the_text_behind(self):
        desk = full_desk()
        self.refuse(desk, NoName, "curve A nonsense")
        self.refuse(desk, NoName, "curve abcdefghi ")
        for text in ("nonsense", "2 x + 1", "1 + 1", "x^13", "2/4", " ", "1 + x ", "x ", "", "-0", "1000000000000"):
            self.refuse(desk, NoText, f"curve a {text}")
            self.refuse(desk, NoText, f"curve put {text}")

    def test_what_the_stages_refuse(self):
        desk = full_desk()
        for kind, row in (
            (TooGreat, "multiply seven six c"), (TooGreat, "multiply twelve line a"), (NoNumber, "stretch a 0 a"),
            (NoNumber, "stretch nought 0 c"), (NoNumber, "stretch one 0 c"), (NoCurve, "plain nought c"),
            (TooGreat, "verdict seven 0 1"), (NoStretch, "verdict a 1 1"), (NoStretch, "verdict nought 2 1"),
            (TooGreat, "verdict seven 1 0"), (TooGreat, "always five"), (TooGreat, "always six"),
            (TooGreat, "least seven 1 0 0"), (NoStretch, "least a 1 0 0"), (NoStretch, "least nought 1 1 1"),
            (NoNear, "least a 0 1 0"), (NoNear, "least a 0 1 -1/2"), (NoNear, "least nought 0 1 0"),
            (TooGreat, "greatest seven 1 0 0"), (NoStretch, "greatest a 1 0 0"), (NoNear, "greatest a 0 1 0"),
            (TooGreat, "meet seven a 1 0"), (TooGreat, "meet a twelve 0 1"), (NoStretch, "meet a b 1 0"),
            (NoStretch, "meet a a 1 1"), (NoCurve, "map nought 0 1"), (NoCurve, "map nought 1 0"),
            (TooGreat, "map seven 1 0"), (NoStretch, "map a 1 0"), (NoStretch, "map one 1 1"),
        ):
            self.refuse(desk, kind, row)

    def test_words_go_ahead_of_what_the_stages_refuse(self):
        desk = full_desk()
        self.refuse(desk, NoName, "multiply twelve twelve C")
        self.refuse(desk, NoName, "stretch a 0 C")
        self.refuse(desk, NoName, "plain nought nonamehere")
        self.refuse(desk, NoText, "verdict seven 1 2/4")
        self.refuse(desk, NoText, "least seven 1 0 x")
        self.refuse(desk, NoText, "map nought 1 x")
        self.refuse(desk, NoName, "meet twelve nobody 1 0")

    def test_what_is_refused_changes_nothing(self):
        desk = full_desk()
        for row in (
            "multiply twelve line a", "stretch a 0 a", "plain nought a", "curve a x^13", "curve a ", "add a nobody a",
        ):
            with self.assertRaises(BelowError):
                desk.say(row)
            self.say(desk, "show a", CURVES["a"])
        for row in ("multiply twelve line put", "stretch a 0 put", "plain nought put", "curve put 01"):
            with self.assertRaises(BelowError):
                desk.say(row)
            self.refuse(desk, NoName, "show put")
        self.say(desk, "add a b put", "ok")
        self.say(desk, "show put", "2 + 1/2 x + x^3")


class DesksTest(DeskCase):
    def test_two_desks_know_nothing_of_each_other(self):
        one, other = Desk(), Desk()
        self.say(one, "curve a x", "ok")
        self.refuse(other, NoName, "show a")
        self.say(other, "curve a 7", "ok")
        self.say(one, "show a", "x")
        self.say(other, "add a a b", "ok")
        self.refuse(one, NoName, "show b")
        self.refuse(Desk(), NoName, "show a")

    def test_many_names(self):
        desk = Desk()
        letters = "abcdefghijklmnopqrstuvwxyz"
        names = list(letters) + [letters[place:place + 8] for place in range(19)] + [one * 8 for one in letters]
        for place, name in enumerate(names):
            self.say(desk, f"curve {name} {place + 2} x", "ok")
        for place, name in enumerate(names):
            self.say(desk, f"show {name}", f"{place + 2} x")

    def test_asked_again_the_same_is_told(self):
        desk = full_desk()
        for row in ("show a", "worth a 1/2", "verdict root 0 3", "least a -1 1 1/9", "meet a b -3 3", "map root -3 3"):
            self.assertEqual(desk.say(row), desk.say(row))

    def test_great_curves_are_shown_with_all_their_figures(self):
        desk = Desk()
        self.say(desk, "curve a 999999999999 - 1/999999999999 x", "ok")
        self.say(desk, "multiply a a a", "ok")
        self.say(desk, "multiply a a a", "ok")
        one, other = Fraction(999999999999), Fraction(-1, 999999999999)
        wanted = [one ** 4, 4 * one ** 3 * other, 6 * one ** 2 * other ** 2, 4 * one * other ** 3, other ** 4]
        self.say(desk, "show a", show_curve(cur(*wanted)))
        refused(self, NoText, read_number, desk.say("worth a 0"))


if __name__ == "__main__":
    unittest.main()
