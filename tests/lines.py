"""Texts of deeds for the tests, good ones and spoilt ones."""

COUNTS = {"raw": 0, "come": 4, "go": 3, "strike_lot": 1, "strike_out": 1, "lay": 2, "call_back": 1}
NAMES = sorted(COUNTS) + ["made"]
OTHERS = ["house", "undo", "redo", "purse", "", "0", "12345678", "1234567", "-1", "+1", "1.0"]
SIGNS = "0123456789 _-+.,;:'\"abcdegmoruwz~!\n"


def is_number(word):
    """A number of [20]: one to seven figures, the first no 0 but in 0 itself."""
    if not 1 <= len(word) <= 7 or any(sign not in "0123456789" for sign in word):
        return False
    return word == str(int(word))


def deed_of(text):
    """The deed that a text writes, or None."""
    words = text.split(" ")
    if not all(is_number(word) for word in words[1:]):
        return None
    numbers = [int(word) for word in words[1:]]
    if words[0] == "made":
        if not numbers or len(numbers) % 2:
            return None
        return ("made", tuple((numbers[at], numbers[at + 1]) for at in range(0, len(numbers), 2)))
    if words[0] not in COUNTS or COUNTS[words[0]] != len(numbers):
        return None
    return (words[0],) + tuple(numbers)


def some_number(chance):
    figures = chance.randint(1, 7)
    return chance.choice([0, 1, 10 ** figures - 1, 10 ** (figures - 1), chance.randint(0, 10 ** figures - 1)])


def some_deed(chance):
    name = chance.choice(NAMES)
    if name == "made":
        return (name, tuple((some_number(chance), some_number(chance)) for step in range(chance.randint(1, 4))))
    return (name,) + tuple(some_number(chance) for step in range(COUNTS[name]))


def spoilt_words(chance, line):
    """A word twice, gone, with a nought ahead, with figures behind, or another one."""
    words = line.split(" ")
    at = chance.randrange(len(words))
    way = chance.choice(["twice", "gone", "nought", "figures", "other", "blank", "cut"])
    if way == "twice":
        words.insert(at, words[at])
    elif way == "gone":
        del words[at]
    elif way == "nought":
        words[at] = "0" + words[at]
    elif way == "figures":
        words[at] += chance.choice(["0", "00", "123", "0000000"])
    elif way == "other":
        words[at] = chance.choice(NAMES + OTHERS)
    elif way == "blank":
        words.insert(at, "")
    else:
        words[at] = words[at][:-1]
    return " ".join(words)


def spoilt_signs(chance, line):
    """A sign put in, out, or in the place of another."""
    at = chance.randint(0, len(line))
    sign = chance.choice(SIGNS)
    return line[:at] + chance.choice([sign, sign, ""]) + line[at + chance.choice([0, 1]):]


def spoilt(chance, line):
    return chance.choice([spoilt_words, spoilt_signs])(chance, line)
