"""What must be vouched for on a day, and the surety."""

from drawback.days import check_day, check_term
from drawback.errors import BadCount, BadRows

MOST_PAID = 60


def checked_paid(paid):
    """A copy of what was paid, good pairs (day, coins)."""
    if len(paid) > MOST_PAID:
        raise BadRows("what was paid are at most 60 pairs")
    told = []
    for day, coins in paid:
        check_day(day)
        if coins < 1:
            raise BadCount("coins are 1 or more")
        told.append((day, coins))
    return told


def sum_for(paid, wait, day):
    """The coins paid on a day and on so many days ahead of it."""
    return sum([coins for back, coins in paid if day - wait <= back <= day])


def vouched(paid, wait, day):
    """What must be vouched for on a day."""
    rows = checked_paid(paid)
    check_term(wait)
    check_day(day)
    return sum_for(rows, wait, day)


def surety(paid, wait):
    """The greatest sum that must be vouched for, and the first day on which it is so great."""
    rows = checked_paid(paid)
    check_term(wait)
    # A sum rises only on a day on which something was paid, so these days are enough. The
    # day is turned below nought, so that of like sums the first day is the greatest.
    sums = [(sum_for(rows, wait, day), -day) for day, coins in rows]
    greatest, turned = max(sums, default=(0, 0))
    return (greatest, -turned)
