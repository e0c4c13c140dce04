"""Papers, which show that there is no greater refund."""

from drawback.best import best_of
from drawback.days import LAST_DAY
from drawback.room import against_each, days_of, going
from drawback.rows import checked_both


def dear_ones(lots, duty):
    """The lots of a duty and above."""
    return [lot for lot in lots if lot[2] >= duty]


def units_of(lots):
    return sum([count for day, count, duty in lots])


def tightest(lots, widths):
    """Rising stretches for which units of lots outside and what goes out against are fewest."""
    days = days_of(lots)
    # At each place: of the lots of so many first days the fewest units, and the
    # stretches by which they are so few. The last day lies in no stretch, or ends one.
    fewest = [(0, [])]
    for many, last in enumerate(days):
        units, stretches = fewest[many]
        least = (units + units_of([lot for lot in lots if lot[0] == last]), stretches)
        for ahead, first in enumerate(days[:many + 1]):
            units, stretches = fewest[ahead]
            units += widths[(first, last)]
            if units < least[0]:
                least = (units, stretches + [(first, last)])
        fewest.append(least)
    return fewest[-1][1]


def paper_of(lots, counts, widths, duty):
    """The told paper of a duty, of good lots with their best counts."""
    units = sum([count for lot, count in zip(lots, counts) if lot[2] >= duty])
    return (duty, units, tightest(dear_ones(lots, duty), widths))


def papers(lots, outs, term):
    """A good paper (duty, units, stretches) for each unlike duty, the greatest first."""
    goods, gone = checked_both(lots, outs, term)
    counts = best_of(goods, gone, term)
    widths = against_each(goods, gone, term)
    duties = sorted({duty for day, count, duty in goods})
    return [paper_of(goods, counts, widths, duty) for duty in duties[::-1]]


def are_rising(stretches):
    """Whether pairs are stretches, each beginning behind the end of the one ahead."""
    end = 0
    for first, last in stretches:
        if not end < first <= last <= LAST_DAY:
            return False
        end = last
    return True


def lies_in(day, stretches):
    return any([first <= day <= last for first, last in stretches])


def good_paper(lots, outs, term, paper):
    """Whether a paper's units are those that its duty and its stretches come to."""
    goods, gone = checked_both(lots, outs, term)
    duty, units, stretches = paper
    if not are_rising(stretches):
        return False
    outside = [lot for lot in dear_ones(goods, duty) if not lies_in(lot[0], stretches)]
    gone_against = sum([going(gone, term, stretch) for stretch in stretches])
    return units == units_of(outside) + gone_against
