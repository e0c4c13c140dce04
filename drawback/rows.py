"""Lots and outs: their bounds, their orders, and the refund of taken counts."""

from drawback.days import check_day, check_term
from drawback.errors import BadCount, BadDuty, BadRows, BadTaken

MOST_ROWS = 30
MOST_COUNT = 10000000000
MOST_DUTY = 1000000


def check_many(rows):
    if len(rows) > MOST_ROWS:
        raise BadRows("lots and outs are at most 30")


def check_count(count):
    if not 1 <= count <= MOST_COUNT:
        raise BadCount("a count is a number from 1 to 10000000000")


def check_duty(duty):
    if not 1 <= duty <= MOST_DUTY:
        raise BadDuty("a duty is a number from 1 to 1000000")


def checked_lots(lots):
    """A copy of good lots, triples (day, count, duty)."""
    check_many(lots)
    told = []
    for day, count, duty in lots:
        check_day(day)
        check_count(count)
        check_duty(duty)
        told.append((day, count, duty))
    return told


def checked_outs(outs):
    """A copy of good outs, pairs (day, count)."""
    check_many(outs)
    told = []
    for day, count in outs:
        check_day(day)
        check_count(count)
        told.append((day, count))
    return told


def checked_both(lots, outs, term):
    """Copies of good lots and of good outs, with a good term."""
    goods = checked_lots(lots)
    gone = checked_outs(outs)
    check_term(term)
    return (goods, gone)


def checked_taken(lots, taken):
    """A copy of taken counts, one for each of the good lots."""
    if len(taken) != len(lots):
        raise BadTaken("taken has a number for each lot")
    for lot, units in zip(lots, taken):
        if not 0 <= units <= lot[1]:
            raise BadTaken("taken of a lot are from 0 to its count")
    return list(taken)


def eldest(rows):
    """The places of lots or outs, the eldest first."""
    # The place stands behind the day, so that of one day the lesser place is ahead.
    ages = [(row[0], at) for at, row in enumerate(rows)]
    return [at for day, at in sorted(ages)]


def dearest(lots):
    """The places of lots, of greater duty first, of like duty the elder first."""
    # The duty is turned below nought, so that the greatest one sorts first.
    ranks = [(-duty, day, at) for at, (day, count, duty) in enumerate(lots)]
    return [at for duty, day, at in sorted(ranks)]


def refund(lots, taken):
    """The sum of taken count and duty over good lots."""
    counts = checked_taken(lots, taken)
    return sum([units * lot[2] for lot, units in zip(lots, counts)])
