"""What goes out against stretches of days, and how many units can still be taken."""

from drawback.days import check_stretch, check_term
from drawback.errors import NoPlace, NotDealable
from drawback.rows import checked_both, checked_outs, checked_taken


def going(outs, term, stretch):
    """How many units of good outs go out against a good stretch."""
    first, last = stretch
    return sum([count for day, count in outs if first <= day <= last + term])


def against(outs, term, stretch):
    """How many units go out against a stretch of days."""
    gone = checked_outs(outs)
    check_term(term)
    check_stretch(stretch)
    return going(gone, term, stretch)


def days_of(lots):
    """The unlike days of lots, rising."""
    return sorted({day for day, count, duty in lots})


def stretches_of(lots):
    """The stretches that begin and end on days of lots."""
    days = days_of(lots)
    return [(first, last) for first in days for last in days if first <= last]


def against_each(lots, outs, term):
    """What goes out against each stretch that begins and ends on days of lots."""
    # Any other stretch, drawn in to the lots' days in it, has the same units of lots
    # and no more going out against it, so that these alone need be asked.
    return {stretch: going(outs, term, stretch) for stretch in stretches_of(lots)}


def lessened(slacks, day, units):
    """What is free of each stretch when so many units more of a day are taken."""
    told = {}
    for (first, last), slack in slacks.items():
        told[(first, last)] = slack - units if first <= day <= last else slack
    return told


def slacks_of(lots, outs, term, taken):
    """By how much what goes out against each stretch is more than what is taken of it."""
    slacks = against_each(lots, outs, term)
    for lot, units in zip(lots, taken):
        slacks = lessened(slacks, lot[0], units)
    return slacks


def none_lacks(slacks):
    return all([slack >= 0 for slack in slacks.values()])


def free_at(slacks, lot, units):
    """How many more units of a lot can be taken, so many of it being taken."""
    day, count, duty = lot
    around = [slack for (first, last), slack in slacks.items() if first <= day <= last]
    return min([count - units] + around)


def check_dealable(slacks):
    if not none_lacks(slacks):
        raise NotDealable("the taken counts can't be dealt out")


def check_place(rows, at):
    if not 0 <= at < len(rows):
        raise NoPlace("no lot or out stands at that place")


def dealable(lots, outs, term, taken):
    """Whether taken counts can be dealt out."""
    goods, gone = checked_both(lots, outs, term)
    counts = checked_taken(goods, taken)
    return none_lacks(slacks_of(goods, gone, term, counts))


def room(lots, outs, term, taken, at):
    """How many more units of the lot at a place can be taken."""
    goods, gone = checked_both(lots, outs, term)
    counts = checked_taken(goods, taken)
    slacks = slacks_of(goods, gone, term, counts)
    check_dealable(slacks)
    check_place(goods, at)
    return free_at(slacks, goods[at], counts[at])
