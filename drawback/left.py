"""What is left of a raw kind on a day, and what is due of it."""

from drawback.best import best_of, greatest_of
from drawback.deal import dealt_of, summed
from drawback.ledger import claimed_rows, held_units
from drawback.papers import papers


def claimed_of_lots(ledger):
    """The claimed units of lots, by their numbers."""
    pairs = [(lot, units) for kind, lot, out, units in claimed_rows(ledger)]
    # Numbers go from 1, so the first place stays empty.
    return summed(len(ledger.came) + 1, pairs)


def claimed_of_outs(ledger, base):
    """The claimed units of a raw kind of outs, by their numbers."""
    pairs = [(out, units) for kind, lot, out, units in claimed_rows(ledger) if kind == base]
    return summed(len(ledger.gone) + 1, pairs)


def lots_left(ledger, base, day):
    """The lots of a raw kind that are left on a day: (number, day, count, duty)."""
    claimed = claimed_of_lots(ledger)
    told = []
    for number, (kind, back, count, duty, stands) in enumerate(ledger.came, start=1):
        units = count - claimed[number]
        if stands and kind == base and back <= day and units > 0:
            told.append((number, back, units, duty))
    return told


def outs_left(ledger, base, day):
    """The outs that are left of a raw kind on a day: (number, day, count)."""
    term, limit, share = ledger.rules
    claimed = claimed_of_outs(ledger, base)
    told = []
    for number, (kind, back, count, stands) in enumerate(ledger.gone, start=1):
        units = count * held_units(ledger, kind, base) - claimed[number]
        if stands and day - limit <= back <= day and units > 0:
            told.append((number, back, units))
    return told


def bare(rows):
    """Rows that are left without their numbers, as lots and outs are dealt out."""
    return [row[1:] for row in rows]


def due_left(ledger, base, day):
    """The told dealing of what is left, by the numbers of lots and outs."""
    term, limit, share = ledger.rules
    lots = lots_left(ledger, base, day)
    outs = outs_left(ledger, base, day)
    counts = best_of(bare(lots), bare(outs), term)
    # Rows that are left stand by their numbers, so of one day the lesser number is the elder.
    rows = dealt_of(bare(lots), bare(outs), term, counts)
    return [(lots[lot][0], outs[out][0], units) for lot, out, units in rows]


def refund_left(ledger, base, day):
    """The refund that is left to be claimed."""
    term, limit, share = ledger.rules
    return greatest_of(bare(lots_left(ledger, base, day)), bare(outs_left(ledger, base, day)), term)


def papers_left(ledger, base, day):
    """The papers of what is left."""
    term, limit, share = ledger.rules
    return papers(bare(lots_left(ledger, base, day)), bare(outs_left(ledger, base, day)), term)
