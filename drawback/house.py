"""A customs house: its deeds, their taking back, and its questions."""

from drawback.accounts import account_of, purse_of, surety_of
from drawback.acts import acted, check_claim, check_lot, check_out
from drawback.days import check_term
from drawback.errors import BadShare, NothingLeft
from drawback.ledger import Ledger, check_asked, check_raw, held_units, standing_numbers
from drawback.left import claimed_of_lots, due_left, lots_left, outs_left, papers_left, refund_left

MOST_SHARE = 100


def check_share(share):
    if not 1 <= share <= MOST_SHARE:
        raise BadShare("a share is a number from 1 to 100")


class House:
    """A house of a term, a limit and a share."""

    def __init__(self, term, limit, share):
        check_term(term)
        check_term(limit)
        check_share(share)
        # The books ahead of all deeds, then those behind each deed that counts. None of
        # them is changed, so that taking back is to go by the books ahead again.
        self.ledgers = [Ledger((term, limit, share))]
        self.counting = []
        # Pairs of a deed and the books behind it, what was taken back last at the end.
        self.undone = []

    def books(self):
        """The books as they stand."""
        return self.ledgers[-1]

    def do(self, deed):
        """Does the deed that a tuple tells."""
        ledger, told = acted(self.books(), deed)
        self.ledgers.append(ledger)
        self.counting.append(deed)
        self.undone = []
        return told

    def undo(self):
        """Takes the last deed back, and tells it."""
        if not self.counting:
            raise NothingLeft("there is nothing to take back")
        deed = self.counting.pop()
        self.undone.append((deed, self.ledgers.pop()))
        return deed

    def redo(self):
        """Does again what was taken back last, and tells it."""
        if not self.undone:
            raise NothingLeft("there is nothing to do again")
        deed, ledger = self.undone.pop()
        self.counting.append(deed)
        self.ledgers.append(ledger)
        return deed

    def deeds(self):
        """The deeds that count, the eldest first."""
        return list(self.counting)

    def twin(self):
        """A house that stands alike and goes its own way."""
        term, limit, share = self.terms()
        other = House(term, limit, share)
        other.ledgers = list(self.ledgers)
        other.counting = list(self.counting)
        other.undone = list(self.undone)
        return other

    def raw(self):
        """A new raw kind: its number."""
        return self.do(("raw",))

    def made(self, parts):
        """A new made kind of parts, pairs (kind, number): its number."""
        return self.do(("made", tuple([(kind, number) for kind, number in parts])))

    def come(self, kind, day, count, duty):
        """A lot comes in: its number."""
        return self.do(("come", kind, day, count, duty))

    def go(self, kind, day, count):
        """Units go out: the number of the out."""
        return self.do(("go", kind, day, count))

    def strike_lot(self, lot):
        """Strikes a lot out."""
        self.do(("strike_lot", lot))

    def strike_out(self, out):
        """Strikes an out out."""
        self.do(("strike_out", out))

    def lay(self, kind, day):
        """Claims what is due of a raw kind on a day: the number of the claim."""
        return self.do(("lay", kind, day))

    def call_back(self, claim):
        """Calls a claim back."""
        self.do(("call_back", claim))

    def terms(self):
        """(term, limit, share)."""
        return self.books().rules

    def kinds(self):
        """How many kinds there are."""
        return self.books().stock.many()

    def is_raw(self, kind):
        """Whether a kind is raw."""
        return self.books().stock.is_raw(kind)

    def holds(self, kind):
        """The raw units that a unit of a kind holds, pairs (raw kind, number), rising."""
        return self.books().stock.holds(kind)

    def lot(self, number):
        """(kind, day, count, duty, claimed, stands)."""
        ledger = self.books()
        check_lot(ledger, number)
        kind, day, count, duty, stands = ledger.came[number - 1]
        return (kind, day, count, duty, claimed_of_lots(ledger)[number], stands)

    def out(self, number):
        """(kind, day, count, stands)."""
        ledger = self.books()
        check_out(ledger, number)
        return ledger.gone[number - 1]

    def lots(self, kind):
        """The numbers of the lots of a raw kind that stand, rising."""
        ledger = self.books()
        check_raw(ledger, kind)
        return [number for number in standing_numbers(ledger.came) if ledger.came[number - 1][0] == kind]

    def outs(self, kind):
        """The numbers of the outs that stand and hold a raw kind, rising."""
        ledger = self.books()
        check_raw(ledger, kind)
        return [
            number for number in standing_numbers(ledger.gone)
            if held_units(ledger, ledger.gone[number - 1][0], kind) > 0
        ]

    def asked(self, kind, day):
        """The books as they stand, of which a raw kind and a day are asked."""
        ledger = self.books()
        check_asked(ledger, kind, day)
        return ledger

    def left(self, kind, day):
        """What is left: lots (number, day, count, duty) and outs (number, day, count)."""
        ledger = self.asked(kind, day)
        return (lots_left(ledger, kind, day), outs_left(ledger, kind, day))

    def due(self, kind, day):
        """What is due: triples (lot, out, count)."""
        return due_left(self.asked(kind, day), kind, day)

    def refund(self, kind, day):
        """The refund that is left to be claimed."""
        return refund_left(self.asked(kind, day), kind, day)

    def papers(self, kind, day):
        """The papers of what is left."""
        return papers_left(self.asked(kind, day), kind, day)

    def account(self, kind, day):
        """(duties, given, kept, left to be claimed, rest)."""
        return account_of(self.asked(kind, day), kind, day)

    def claims(self):
        """The numbers of the claims that stand, rising."""
        return standing_numbers(self.books().laid)

    def claim(self, number):
        """(kind, day, paid, stands, triples)."""
        ledger = self.books()
        check_claim(ledger, number)
        kind, day, paid, worth, triples, stands = ledger.laid[number - 1]
        return (kind, day, paid, stands, triples)

    def purse(self):
        """All that was paid less all that was paid back."""
        return purse_of(self.books())

    def surety(self, wait):
        """The surety of what was paid for the claims that stand: (coins, day)."""
        return surety_of(self.books(), wait)
