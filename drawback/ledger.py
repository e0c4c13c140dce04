"""The books of a house: its kinds, lots, outs and claims."""

from drawback.days import check_day
from drawback.errors import NotRaw
from drawback.kinds import Kinds


class Ledger:
    """Books that stay as they are once a deed has made them; each deed makes others."""

    def __init__(self, rules):
        # The term, the limit and the share.
        self.rules = rules
        self.stock = Kinds()
        # Each row stands at the place before its number and ends with whether it stands.
        # Lots are (kind, day, count, duty, stands), outs (kind, day, count, stands).
        self.came = []
        self.gone = []
        # Claims are (kind, day, paid, worth, triples, stands).
        self.laid = []

    def copied(self):
        """Books alike, to be changed by one deed."""
        other = Ledger(self.rules)
        other.stock = self.stock.twin()
        other.came = list(self.came)
        other.gone = list(self.gone)
        other.laid = list(self.laid)
        return other


def check_raw(ledger, kind):
    if not ledger.stock.is_raw(kind):
        raise NotRaw("the kind isn't raw")


def check_asked(ledger, kind, day):
    """A raw kind and a day, as most questions have them."""
    check_raw(ledger, kind)
    check_day(day)


def held_units(ledger, kind, base):
    """How many units of a raw kind a unit of a kind holds."""
    return dict(ledger.stock.holds(kind)).get(base, 0)


def standing_numbers(rows):
    """The numbers of the rows that stand, rising."""
    return [number for number, row in enumerate(rows, start=1) if row[-1]]


def claimed_rows(ledger):
    """What the claims that stand have claimed: (kind, lot, out, units)."""
    told = []
    for kind, day, paid, worth, triples, stands in ledger.laid:
        if stands:
            told += [(kind, lot, out, units) for lot, out, units in triples]
    return told
