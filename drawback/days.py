"""Days, terms and stretches of days, and which days an out reaches."""

from drawback.errors import BadDay, BadStretch, BadTerm

FIRST_DAY = 1
LAST_DAY = 999
MOST_TERM = 400


def is_day(day):
    return FIRST_DAY <= day <= LAST_DAY


def check_day(day):
    if not is_day(day):
        raise BadDay("a day is a number from 1 to 999")


def check_term(term):
    if not 0 <= term <= MOST_TERM:
        raise BadTerm("a term is a number from 0 to 400")


def check_stretch(stretch):
    first, last = stretch
    if not is_day(first) or not is_day(last) or first > last:
        raise BadStretch("a stretch is two days, the first no later than the last")


def reach(day, term):
    """The first and the last day that what goes out on a day reaches."""
    check_day(day)
    check_term(term)
    # A term may lead back behind the first day there is, where nothing came in.
    return (max(FIRST_DAY, day - term), day)


def meets(stretch, day, term):
    """Whether what goes out on a day reaches some day of a stretch."""
    check_stretch(stretch)
    first, last = reach(day, term)
    return stretch[0] <= last and first <= stretch[1]
