"""Words: whole numbers that tell a number, a place or nothing."""

from cellkeep.errors import BadNumber, BadWord, NoPlace
from cellkeep.whole import is_whole, is_within

NOTHING = -1
MOST_NUMBER = 1000000000000
MOST_PLACE = 9999


def is_number(thing):
    return is_within(thing, -MOST_NUMBER, MOST_NUMBER)


def is_place(thing):
    return is_within(thing, 0, MOST_PLACE)


def want_number(thing):
    if not is_number(thing):
        raise BadNumber("no number that a word can tell")


def want_place(thing):
    if not is_place(thing):
        raise NoPlace("no place that a word can tell")


def number_word(n):
    want_number(n)
    return 2 * n


def place_word(at):
    want_place(at)
    return 2 * at + 1


def kind(word):
    if not is_whole(word):
        raise BadWord("a word is a whole number")
    if word == NOTHING:
        return "nothing"
    if word % 2 == 0 and is_number(word // 2):
        return "number"
    if word % 2 == 1 and is_place(word // 2):
        return "place"
    raise BadWord("a whole number that is no word")


def worth(word):
    if kind(word) == "nothing":
        return None
    return word // 2
