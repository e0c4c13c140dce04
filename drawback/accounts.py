"""The account of a raw kind on a day, the purse and the surety of a house."""

from drawback.left import refund_left
from drawback.sureties import surety


def duties_of(ledger, base, day):
    """The duties of all lots of a raw kind that came by a day and stand."""
    return sum([
        count * duty for kind, back, count, duty, stands in ledger.came
        if stands and kind == base and back <= day
    ])


def account_of(ledger, base, day):
    """Duties, what was given and kept, what is left to be claimed, and the rest."""
    counting = [
        (paid, worth) for kind, back, paid, worth, triples, stands in ledger.laid
        if stands and kind == base and back <= day
    ]
    duties = duties_of(ledger, base, day)
    given = sum([paid for paid, worth in counting])
    kept = sum([worth - paid for paid, worth in counting])
    unclaimed = refund_left(ledger, base, day)
    return (duties, given, kept, unclaimed, duties - given - kept - unclaimed)


def paid_rows(ledger):
    """What was paid for the claims that stand, pairs (day, coins)."""
    return [(day, paid) for kind, day, paid, worth, triples, stands in ledger.laid if stands]


def purse_of(ledger):
    """All that was paid less all that was paid back."""
    return sum([coins for day, coins in paid_rows(ledger)])


def surety_of(ledger, wait):
    """The surety of what was paid for the claims that stand."""
    # A small share of a small refund may come to no coin at all.
    return surety([(day, coins) for day, coins in paid_rows(ledger) if coins > 0], wait)
