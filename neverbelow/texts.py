"""Texts: numbers and curves, written and read."""

from neverbelow.curves import MOST_NUMBERS, curve_of
from neverbelow.errors import NoText
from neverbelow.numbers import NOUGHT, ONE, minus, number, sign

FIGURES = "0123456789"
MOST_FIGURES = 12


def show_number(one):
    if one[1] == 1:
        return str(one[0])
    return str(one[0]) + "/" + str(one[1])


def show_power(place):
    if place == 1:
        return "x"
    return "x^" + str(place)


def show_term(size, place):
    # The size is a number above nought: its sign is written by itself.
    if place == 0:
        return show_number(size)
    if size == ONE:
        return show_power(place)
    return show_number(size) + " " + show_power(place)


def show_curve(curve):
    found = ""
    for place in range(len(curve)):
        one = curve[place]
        if sign(one) == 0:
            continue
        if found != "":
            found = found + (" - " if sign(one) < 0 else " + ")
        elif sign(one) < 0:
            found = "-"
        found = found + show_term((abs(one[0]), one[1]), place)
    return found if found != "" else "0"


def whole_in(figures):
    if figures == "" or len(figures) > MOST_FIGURES or not all([one in FIGURES for one in figures]):
        raise NoText("a whole number is written with one to twelve figures")
    return int(figures)


def size_in(text):
    parts = text.partition("/")
    top = whole_in(parts[0])
    if parts[1] == "":
        return (top, 1)
    bottom = whole_in(parts[2])
    if bottom == 0:
        raise NoText("no bottom is 0")
    return number(top, bottom)


def power_in(word):
    if word == "x":
        return 1
    if not word.startswith("x^"):
        raise NoText("a power is written x, or x^ and figures")
    found = whole_in(word[2:])
    if found >= MOST_NUMBERS:
        raise NoText("a power is at most 12")
    return found


def term_in(words):
    # Told is (place, size).
    if len(words) == 1 and not words[0].startswith("x"):
        return (0, size_in(words[0]))
    if len(words) == 1:
        return (power_in(words[0]), ONE)
    if len(words) == 2:
        return (power_in(words[1]), size_in(words[0]))
    raise NoText("a term is a number, a power, or both with a blank between")


def sign_and_rest(text):
    if text.startswith("-"):
        return ("-", text[1:])
    return ("+", text)


def signed(word, size):
    if word == "-":
        return minus(NOUGHT, size)
    return size


def terms_in(text):
    # Told are lists of words, each with the sign of its term first.
    parts = sign_and_rest(text)
    found = [[parts[0]]]
    for word in parts[1].split(" "):
        if word in ("+", "-"):
            found.append([word])
        else:
            found[-1].append(word)
    return found


def check_text(text):
    if not isinstance(text, str):
        raise NoText("what is no text isn't read")


def check_written(text, told):
    # Whatever else might be read so, a text is refused where it isn't just the one that is written.
    if text != told:
        raise NoText("this is not how it is written")


def read_number(text):
    check_text(text)
    parts = sign_and_rest(text)
    found = signed(parts[0], size_in(parts[1]))
    check_written(text, show_number(found))
    return found


def read_curve(text):
    check_text(text)
    numbers = [NOUGHT] * MOST_NUMBERS
    for words in terms_in(text):
        term = term_in(words[1:])
        numbers[term[0]] = signed(words[0], term[1])
    found = curve_of(numbers)
    check_written(text, show_curve(found))
    return found
