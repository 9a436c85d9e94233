"""Rests written as a text, and read from it."""

from wheelrow.errors import BadRests, BadText
from wheelrow.numbers import are_rests, is_rest_pair

NO_RESTS = "-"
FIGURES = "0123456789"
# The greatest round, 1000000, has the most; Python itself refuses to turn thousands of them into a number.
MOST_FIGURES = 7


def written(rests):
    if not are_rests(rests):
        raise BadRests("rests are a list of pairs of a rest and its round")
    if len(rests) == 0:
        return NO_RESTS
    return " ".join([f"{rest}:{turn}" for rest, turn in rests])


def read(text):
    if not isinstance(text, str):
        raise BadText("rests are read from a text")
    if text == NO_RESTS:
        return []
    return [read_pair(word) for word in text.split(" ")]


def read_pair(word):
    halves = word.partition(":")
    pair = (read_number(halves[0]), read_number(halves[2]))
    if not is_rest_pair(pair):
        raise BadText("a rest is less than its round, and a round is from 1 to 1000000")
    return pair


def read_number(word):
    if not are_figures(word):
        raise BadText("rests are written as rest:round in figures, with one blank between")
    return int(word)


def are_figures(word):
    if not 1 <= len(word) <= MOST_FIGURES or not all([sign in FIGURES for sign in word]):
        return False
    return word == "0" or not word.startswith("0")
