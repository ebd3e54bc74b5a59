"""Floors, and spots with runs, as texts."""

from cellways.errors import NoText
from cellways.floors import is_floor
from cellways.turns import DIRECTIONS

DIGITS = "0123456789"
MOST_DIGITS = 3


def written_floor(floor):
    return "".join([row + "\n" for row in floor])


def read_floor(text):
    rows = tuple(text[:-1].split("\n"))
    if not text.endswith("\n") or not is_floor(rows):
        raise NoText("this is not the writing of a floor")
    return rows


def written_runs(start, runs):
    words = [str(start[0]) + "," + str(start[1])]
    words.extend([run[0] + str(run[1]) for run in runs])
    return " ".join(words)


# Looked at sign by sign, because int takes blanks, marks and needless noughts, too.
def is_count(word):
    if not 1 <= len(word) <= MOST_DIGITS or not all([sign in DIGITS for sign in word]):
        return False
    return word == "0" or word[0] != "0"


def is_positive_count(word):
    return is_count(word) and word != "0"


# A spot beside a floor may have a row or column below 0.
def read_place(word):
    if not is_count(word) and not (word.startswith("-") and is_positive_count(word[1:])):
        raise NoText("this is not the writing of a row or column")
    return int(word)


def read_spot(word):
    parts = word.split(",")
    if len(parts) != 2:
        raise NoText("this is not the writing of a spot")
    return (read_place(parts[0]), read_place(parts[1]))


def read_run(word):
    direction = word.rstrip(DIGITS)
    steps = word[len(direction):]
    if direction not in DIRECTIONS or not is_positive_count(steps):
        raise NoText("this is not the writing of a run")
    return (direction, int(steps))


def read_runs(text):
    words = text.split(" ")
    start = read_spot(words[0])
    runs = [read_run(word) for word in words[1:]]
    if any([one[0] == other[0] for one, other in zip(runs, runs[1:])]):
        raise NoText("two runs of one direction stand beside each other")
    return (start, runs)
