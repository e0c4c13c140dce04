"""Deeds as texts."""

from drawback.errors import BadText

MOST_FIGURES = 7
# How many numbers stand behind each name, but behind made, where it is any number of pairs.
NUMBERS = {
    "raw": 0,
    "come": 4,
    "go": 3,
    "strike_lot": 1,
    "strike_out": 1,
    "lay": 2,
    "call_back": 1,
}


def spaced(things):
    """Words and numbers with one blank between."""
    return " ".join([str(thing) for thing in things])


def deed_line(deed):
    """The text of a deed."""
    name, *given = deed
    if name == "made":
        return spaced([name] + [number for pair in given[0] for number in pair])
    return spaced(deed)


def is_number(word):
    if not word.isdigit() or len(word) > MOST_FIGURES:
        return False
    return word == "0" or not word.startswith("0")


def read_numbers(words):
    """The numbers that words write."""
    if not all([is_number(word) for word in words]):
        raise BadText("a number has one to seven figures, the first no 0 but in 0 itself")
    return [int(word) for word in words]


def read_deed(text):
    """The deed that a text writes."""
    name, *words = text.split(" ")
    numbers = read_numbers(words)
    if name == "made" and numbers and len(numbers) % 2 == 0:
        return (name, tuple(zip(numbers[::2], numbers[1::2])))
    if NUMBERS.get(name) != len(numbers):
        raise BadText("the text writes no deed")
    return tuple([name] + numbers)
