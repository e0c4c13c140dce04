"""What each deed does to the books of a house: it makes new ones, or is refused."""

from drawback.days import check_day
from drawback.errors import BadCount, Called, Claimed, Full, NoClaim, NoLot, NoOut, NothingDue, Struck
from drawback.ledger import check_asked, claimed_rows
from drawback.left import due_left
from drawback.rows import check_duty

MOST_ENTRIES = 30
MOST_UNITS = 1000000

# Each act is handed the books and a list of what the deed was handed, and tells a pair:
# the new books, and the number that the deed tells, or None.


def check_units(count):
    if not 1 <= count <= MOST_UNITS:
        raise BadCount("a count of an entry is a number from 1 to 1000000")


def check_free(rows):
    if len(rows) >= MOST_ENTRIES:
        raise Full("there are at most 30 lots, 30 outs and 30 claims")


def put_down(rows, number):
    """Marks the row of a number as one that stands no more."""
    rows[number - 1] = rows[number - 1][:-1] + (False,)


def raw_act(ledger, given):
    fresh = ledger.copied()
    return (fresh, fresh.stock.raw())


def made_act(ledger, given):
    fresh = ledger.copied()
    return (fresh, fresh.stock.made(given[0]))


def come_act(ledger, given):
    kind, day, count, duty = given
    check_asked(ledger, kind, day)
    check_units(count)
    check_duty(duty)
    check_free(ledger.came)
    fresh = ledger.copied()
    fresh.came.append((kind, day, count, duty, True))
    return (fresh, len(fresh.came))


def go_act(ledger, given):
    kind, day, count = given
    ledger.stock.check_kind(kind)
    check_day(day)
    check_units(count)
    check_free(ledger.gone)
    fresh = ledger.copied()
    fresh.gone.append((kind, day, count, True))
    return (fresh, len(fresh.gone))


def check_lot(ledger, number):
    if not 1 <= number <= len(ledger.came):
        raise NoLot("no lot has that number")


def check_out(ledger, number):
    if not 1 <= number <= len(ledger.gone):
        raise NoOut("no out has that number")


def check_claim(ledger, number):
    if not 1 <= number <= len(ledger.laid):
        raise NoClaim("no claim has that number")


def check_strikable(rows, number, claimed):
    """That a lot or an out stands, and isn't among the claimed ones."""
    if not rows[number - 1][-1]:
        raise Struck("it was struck out already")
    if number in claimed:
        raise Claimed("a unit of it is claimed")


def strike_lot_act(ledger, given):
    number = given[0]
    check_lot(ledger, number)
    check_strikable(ledger.came, number, [lot for kind, lot, out, units in claimed_rows(ledger)])
    fresh = ledger.copied()
    put_down(fresh.came, number)
    return (fresh, None)


def strike_out_act(ledger, given):
    number = given[0]
    check_out(ledger, number)
    check_strikable(ledger.gone, number, [out for kind, lot, out, units in claimed_rows(ledger)])
    fresh = ledger.copied()
    put_down(fresh.gone, number)
    return (fresh, None)


def lay_act(ledger, given):
    kind, day = given
    check_asked(ledger, kind, day)
    triples = due_left(ledger, kind, day)
    if not triples:
        raise NothingDue("nothing is due of that kind on that day")
    check_free(ledger.laid)
    term, limit, share = ledger.rules
    worth = sum([units * ledger.came[lot - 1][3] for lot, out, units in triples])
    fresh = ledger.copied()
    fresh.laid.append((kind, day, worth * share // 100, worth, tuple(triples), True))
    return (fresh, len(fresh.laid))


def call_back_act(ledger, given):
    number = given[0]
    check_claim(ledger, number)
    if not ledger.laid[number - 1][-1]:
        raise Called("the claim was called back already")
    fresh = ledger.copied()
    put_down(fresh.laid, number)
    return (fresh, None)


ACTS = {
    "raw": raw_act,
    "made": made_act,
    "come": come_act,
    "go": go_act,
    "strike_lot": strike_lot_act,
    "strike_out": strike_out_act,
    "lay": lay_act,
    "call_back": call_back_act,
}


def acted(ledger, deed):
    """The books behind a deed, and what it tells."""
    name, *given = deed
    act = ACTS[name]
    return act(ledger, given)
