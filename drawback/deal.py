"""The told dealing of taken counts, and what is a dealing."""

from drawback.days import reach
from drawback.room import check_dealable, check_place, slacks_of
from drawback.rows import checked_both, checked_lots, checked_taken, eldest


def reaches(day, term, back):
    """Whether what goes out on a day reaches what came in on a day back."""
    first, last = reach(day, term)
    return first <= back <= last


def dealt_of(lots, outs, term, taken):
    """The told dealing of good taken counts that can be dealt out."""
    left = list(taken)
    ages = eldest(lots)
    told = []
    for out in eldest(outs):
        day, wanted = outs[out]
        within = [lot for lot in ages if reaches(day, term, lots[lot][0])]
        for lot in within:
            units = min(wanted, left[lot])
            if units > 0:
                told.append((lot, out, units))
                left[lot] -= units
                wanted -= units
    return told


def dealt(lots, outs, term, taken):
    """The told dealing of taken counts, triples (lot, out, count)."""
    goods, gone = checked_both(lots, outs, term)
    counts = checked_taken(goods, taken)
    check_dealable(slacks_of(goods, gone, term, counts))
    return dealt_of(goods, gone, term, counts)


def is_given(lots, outs, term, row):
    """Whether a triple gives a unit or more of a lot to an out that reaches it."""
    lot, out, count = row
    if not 0 <= lot < len(lots) or not 0 <= out < len(outs) or count < 1:
        return False
    return reaches(outs[out][0], term, lots[lot][0])


def summed(many, pairs):
    """Of pairs (place, count) the sum for each of so many places."""
    told = [0] * many
    for at, count in pairs:
        told[at] += count
    return told


def none_above(sums, rows):
    """Whether no sum is above the count of its lot or out."""
    return all([units <= row[1] for units, row in zip(sums, rows)])


def is_dealing(lots, outs, term, rows):
    """Whether triples are a dealing."""
    goods, gone = checked_both(lots, outs, term)
    # Only where each row names a lot and an out can sums be made by their places.
    if not all([is_given(goods, gone, term, row) for row in rows]):
        return False
    if len({(lot, out) for lot, out, count in rows}) < len(rows):
        return False
    by_lots = summed(len(goods), [(lot, count) for lot, out, count in rows])
    by_outs = summed(len(gone), [(out, count) for lot, out, count in rows])
    return none_above(by_lots, goods) and none_above(by_outs, gone)


def counts_of(lots, rows):
    """The units of each lot in triples (lot, out, count)."""
    goods = checked_lots(lots)
    for lot, out, count in rows:
        check_place(goods, lot)
    return summed(len(goods), [(lot, count) for lot, out, count in rows])
