"""What a unit of a lot or of an out is worth, more or less, and lines of outs."""

from drawback.best import greatest_of
from drawback.days import check_day
from drawback.errors import BadCount
from drawback.room import check_place
from drawback.rows import check_duty, checked_both

MOST_UNITS = 40


def lot_more(lots, outs, term, day, duty):
    """By how much a unit more that comes in on a day raises the greatest refund."""
    goods, gone = checked_both(lots, outs, term)
    check_day(day)
    check_duty(duty)
    return greatest_of(goods + [(day, 1, duty)], gone, term) - greatest_of(goods, gone, term)


def out_more(lots, outs, term, day):
    """By how much a unit more that goes out on a day raises the greatest refund."""
    goods, gone = checked_both(lots, outs, term)
    check_day(day)
    return greatest_of(goods, gone + [(day, 1)], term) - greatest_of(goods, gone, term)


def less_one(rows, at):
    """Lots or outs with one unit less of the one at a place, which goes with its last unit."""
    row = rows[at]
    kept = [(row[0], row[1] - 1) + row[2:]] if row[1] > 1 else []
    return rows[:at] + kept + rows[at + 1:]


def lot_less(lots, outs, term, at):
    """By how much a unit less of a lot lowers the greatest refund."""
    goods, gone = checked_both(lots, outs, term)
    check_place(goods, at)
    return greatest_of(goods, gone, term) - greatest_of(less_one(goods, at), gone, term)


def out_less(lots, outs, term, at):
    """By how much a unit less of an out lowers the greatest refund."""
    goods, gone = checked_both(lots, outs, term)
    check_place(gone, at)
    return greatest_of(goods, gone, term) - greatest_of(goods, less_one(gone, at), term)


def line_of(lots, outs, term, day, most):
    """The greatest refunds with an out on a day besides, of 0 to most units."""
    goods, gone = checked_both(lots, outs, term)
    check_day(day)
    if not 0 <= most <= MOST_UNITS:
        raise BadCount("a line is of 0 to 40 units")
    return [greatest_of(goods, gone + [(day, units)], term) for units in range(most + 1)]
