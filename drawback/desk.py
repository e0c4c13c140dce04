"""A desk, which answers lines with texts."""

from drawback.deeds import deed_line, read_deed, read_numbers, spaced
from drawback.errors import (
    BadCount, BadDay, BadDuty, BadParts, BadTerm, BadText, Called, Claimed, Full, NoClaim, NoKind,
    NoLot, NoOut, NotRaw, NothingDue, NothingLeft, Struck, TooMuch,
)


def row_texts(rows):
    """Triples or pairs as numbers, none of them as a word of its own."""
    if not rows:
        return "none"
    return "; ".join([spaced(row) for row in rows])


def undo_text(house, numbers):
    return deed_line(house.undo())


def redo_text(house, numbers):
    return deed_line(house.redo())


def due_text(house, numbers):
    kind, day = numbers
    return row_texts(house.due(kind, day))


def refund_text(house, numbers):
    kind, day = numbers
    return str(house.refund(kind, day))


def account_text(house, numbers):
    kind, day = numbers
    return spaced(house.account(kind, day))


def holds_text(house, numbers):
    return row_texts(house.holds(numbers[0]))


def purse_text(house, numbers):
    return str(house.purse())


def surety_text(house, numbers):
    return spaced(house.surety(numbers[0]))


def claim_text(house, numbers):
    kind, day, paid, stands, triples = house.claim(numbers[0])
    return row_texts(triples)


# The lines that are no deeds': how many numbers stand behind each word, and what answers it.
NUMBERS = {
    "undo": 0,
    "redo": 0,
    "due": 2,
    "refund": 2,
    "account": 2,
    "holds": 1,
    "purse": 0,
    "surety": 1,
    "claim": 1,
}
ANSWERS = {
    "undo": undo_text,
    "redo": redo_text,
    "due": due_text,
    "refund": refund_text,
    "account": account_text,
    "holds": holds_text,
    "purse": purse_text,
    "surety": surety_text,
    "claim": claim_text,
}


def read_line(line):
    """What a line asks or does: a tuple of a word and numbers, or a deed."""
    name, *words = line.split(" ")
    if name not in NUMBERS:
        return read_deed(line)
    numbers = read_numbers(words)
    if len(numbers) != NUMBERS[name]:
        raise BadText("the line has too few numbers or too many")
    return tuple([name] + numbers)


def deed_text(house, deed):
    """Does a deed, and answers with the number it tells."""
    told = house.do(deed)
    return "done" if told is None else str(told)


def told_text(house, asked):
    """The answer to a line that was read, where it isn't refused."""
    name, *numbers = asked
    if name not in ANSWERS:
        return deed_text(house, asked)
    answer = ANSWERS[name]
    return answer(house, numbers)


def told_of_books(house, asked):
    """The same, or the refusal that the books give."""
    try:
        return told_text(house, asked)
    except NoKind:
        return "refused nokind"
    except NotRaw:
        return "refused notraw"
    except NoLot:
        return "refused nolot"
    except NoOut:
        return "refused noout"
    except NoClaim:
        return "refused noclaim"
    except Struck:
        return "refused struck"
    except Claimed:
        return "refused claimed"
    except Called:
        return "refused called"
    except NothingDue:
        return "refused nothingdue"
    except NothingLeft:
        return "refused nothingleft"
    except Full:
        return "refused full"


def told_or_refused(house, asked):
    """The same, or the refusal of a number that is out of its bounds."""
    try:
        return told_of_books(house, asked)
    except BadDay:
        return "refused badday"
    except BadTerm:
        return "refused badterm"
    except BadCount:
        return "refused badcount"
    except BadDuty:
        return "refused badduty"
    except BadParts:
        return "refused badparts"
    except TooMuch:
        return "refused toomuch"


class Desk:
    """A desk of a house."""

    def __init__(self, house):
        self.house = house

    def ask(self, line):
        """Answers a line."""
        try:
            asked = read_line(line)
        except BadText:
            return "what"
        return told_or_refused(self.house, asked)
