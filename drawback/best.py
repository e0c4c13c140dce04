"""The best counts, and the greatest refund."""

from drawback.room import against_each, free_at, lessened
from drawback.rows import checked_both, dearest, refund


def best_of(lots, outs, term):
    """The best counts of good lots and outs."""
    counts = [0] * len(lots)
    slacks = against_each(lots, outs, term)
    for at in dearest(lots):
        counts[at] = free_at(slacks, lots[at], 0)
        slacks = lessened(slacks, lots[at][0], counts[at])
    return counts


def best(lots, outs, term):
    """The best counts, a number for each lot."""
    goods, gone = checked_both(lots, outs, term)
    return best_of(goods, gone, term)


def greatest_of(lots, outs, term):
    """The greatest refund of good lots and outs."""
    return refund(lots, best_of(lots, outs, term))


def greatest(lots, outs, term):
    """The refund of the best counts."""
    goods, gone = checked_both(lots, outs, term)
    return greatest_of(goods, gone, term)
