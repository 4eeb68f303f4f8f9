"""A desk: curves kept by names, and rows of words that are answered with texts."""

from neverbelow.common import plain
from neverbelow.crossings import meetings
from neverbelow.curves import added, moved, multiplied, slope, stretched, taken, worth
from neverbelow.errors import NoName, NoRow
from neverbelow.extremes import greatest, least
from neverbelow.maps import map_of
from neverbelow.squares import always
from neverbelow.texts import read_curve, read_number, show_curve, show_number
from neverbelow.verdicts import BELOW, place_rows, verdict

LETTERS = "abcdefghijklmnopqrstuvwxyz"
MOST_LETTERS = 8
OK = "ok"
PUT = "curve"

# What stands behind the first word of a row: A by which a curve stands, K a number, C a name to put.
STANDS = "A"
NUMBER = "K"
NAME = "C"
FORMS = {
    "add": "AAC", "take": "AAC", "multiply": "AAC", "slope": "AC", "move": "AKC", "stretch": "AKC", "plain": "AC",
    "show": "A", "worth": "AK", "verdict": "AKK", "always": "A", "least": "AKKK", "greatest": "AKKK",
    "meet": "AAKK", "map": "AKK",
}


def check_name(word):
    if word == "" or len(word) > MOST_LETTERS or not all([one in LETTERS for one in word]):
        raise NoName("a name has one to eight small letters")


def made(word, handed):
    if word == "add":
        return added(handed[0], handed[1])
    if word == "take":
        return taken(handed[0], handed[1])
    if word == "multiply":
        return multiplied(handed[0], handed[1])
    if word == "slope":
        return slope(handed[0])
    if word == "move":
        return moved(handed[0], handed[1])
    if word == "stretch":
        return stretched(handed[0], handed[1])
    return plain(handed[0])


def verdict_text(told):
    if told[0] == BELOW:
        return told[0] + " " + show_number(told[1])
    return told[0]


def worth_and_place(told):
    return show_number(told[0]) + " " + show_number(told[1])


def meetings_text(told):
    if len(told) == 1:
        return told[0]
    if len(told[1]) == 0:
        return "nowhere"
    return " ".join(told[1])


def map_text(rows):
    found = [show_number(row[1]) + ".." + show_number(row[2]) for row in place_rows(rows)]
    if len(found) == 0:
        return "none"
    return " ".join(found)


def answered(word, handed):
    if word == "show":
        return show_curve(handed[0])
    if word == "worth":
        return show_number(worth(handed[0], handed[1]))
    if word == "verdict":
        return verdict_text(verdict(handed[0], handed[1], handed[2]))
    if word == "always":
        return verdict_text(always(handed[0]))
    if word == "least":
        return worth_and_place(least(handed[0], handed[1], handed[2], handed[3]))
    if word == "greatest":
        return worth_and_place(greatest(handed[0], handed[1], handed[2], handed[3]))
    if word == "meet":
        return meetings_text(meetings(handed[0], handed[1], handed[2], handed[3]))
    return map_text(map_of(handed[0], handed[1], handed[2]))


class Desk:
    def __init__(self):
        self.standing = {}

    def say(self, row):
        if not isinstance(row, str):
            raise NoRow("a row is a text")
        words = row.split(" ")
        if words[0] == PUT and len(words) > 2:
            return self.put(words[1], " ".join(words[2:]))
        if words[0] not in FORMS or len(words) - 1 != len(FORMS[words[0]]):
            raise NoRow("no such row is listed")
        handed = self.read_words(FORMS[words[0]], words[1:])
        if FORMS[words[0]].endswith(NAME):
            self.standing[words[-1]] = made(words[0], handed)
            return OK
        return answered(words[0], handed)

    def put(self, name, text):
        check_name(name)
        self.standing[name] = read_curve(text)
        return OK

    def read_words(self, form, words):
        found = []
        for place in range(len(words)):
            if form[place] == NUMBER:
                found.append(read_number(words[place]))
                continue
            check_name(words[place])
            if form[place] == STANDS:
                found.append(self.curve_by(words[place]))
        return found

    def curve_by(self, name):
        if name not in self.standing:
            raise NoName("no curve stands by this name")
        return self.standing[name]
