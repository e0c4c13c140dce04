"""A house as the document tells it, for the tests: books gone through at each question."""

import copy

from books import flow_best, refund_of
from drawback import errors
from refusals import FAR

QUESTIONS = ["left", "due", "refund", "account"]


def told_dealing(lots, outs, term, counts):
    """The outs in turn, the eldest first, each given unit by unit of day and lot, as [6] tells."""
    free = dict(enumerate(counts))
    rows = []
    for out in sorted(range(len(outs)), key=lambda at: (outs[at][0], at)):
        day, wanted = outs[out]
        for lot in sorted(range(len(lots)), key=lambda at: (lots[at][0], at)):
            if wanted and free[lot] and day - term <= lots[lot][0] <= day:
                units = min(wanted, free[lot])
                free[lot] -= units
                wanted -= units
                rows.append((lot, out, units))
    assert not any(free.values())
    return rows


class Model:
    def __init__(self, term, limit, share):
        self.rules = (term, limit, share)
        self.books = {"kinds": [], "lots": [], "outs": [], "claims": []}
        self.past = []
        self.future = []

    # What is there.

    def terms(self):
        return self.rules

    def kinds(self):
        return len(self.books["kinds"])

    def is_raw(self, kind):
        if not 1 <= kind <= self.kinds():
            raise errors.NoKind
        return self.books["kinds"][kind - 1] is None

    def units(self, kind, base):
        """How many units of a raw kind a unit of a kind holds."""
        if self.is_raw(kind):
            return int(kind == base)
        return sum(number * self.units(part, base) for part, number in self.books["kinds"][kind - 1])

    def holds(self, kind):
        self.is_raw(kind)
        held = [(base, self.units(kind, base)) for base in range(1, kind + 1) if self.is_raw(base)]
        return [(base, units) for base, units in held if units]

    def check_raw(self, kind):
        if not self.is_raw(kind):
            raise errors.NotRaw

    def row(self, book, number, refusal):
        if not 1 <= number <= len(self.books[book]):
            raise refusal
        return self.books[book][number - 1]

    def standing(self):
        return [claim for claim in self.books["claims"] if claim["stands"]]

    def claimed(self, lot=None, out=None, kind=None):
        """The claimed units of a lot, or of an out, of one kind or of any."""
        return sum(
            units
            for claim in self.standing()
            for lot_number, out_number, units in claim["triples"]
            if lot in (None, lot_number) and out in (None, out_number) and kind in (None, claim["kind"])
        )

    def lot(self, number):
        row = self.row("lots", number, errors.NoLot)
        return (row["kind"], row["day"], row["count"], row["duty"], self.claimed(lot=number), row["stands"])

    def out(self, number):
        row = self.row("outs", number, errors.NoOut)
        return (row["kind"], row["day"], row["count"], row["stands"])

    def lots(self, kind):
        self.check_raw(kind)
        rows = enumerate(self.books["lots"], 1)
        return [number for number, row in rows if row["stands"] and row["kind"] == kind]

    def outs(self, kind):
        self.check_raw(kind)
        rows = enumerate(self.books["outs"], 1)
        return [number for number, row in rows if row["stands"] and self.units(row["kind"], kind)]

    def claims(self):
        return [number for number, row in enumerate(self.books["claims"], 1) if row["stands"]]

    def claim(self, number):
        row = self.row("claims", number, errors.NoClaim)
        return (row["kind"], row["day"], row["paid"], row["stands"], tuple(row["triples"]))

    def purse(self):
        return sum(claim["paid"] for claim in self.standing())

    def surety(self, wait):
        if not 0 <= wait <= 400:
            raise errors.BadTerm
        # test_sureties goes through all days; here those on which something was paid are enough.
        paid = [(claim["day"], claim["paid"]) for claim in self.standing() if claim["paid"]]
        greatest = (0, 0)
        for day in sorted(day for day, coins in paid):
            held = sum(coins for back, coins in paid if back <= day <= back + wait)
            if held > greatest[0]:
                greatest = (held, day)
        return greatest

    # Of a raw kind on a day.

    def check_asked(self, kind, day):
        self.check_raw(kind)
        if not 1 <= day <= 999:
            raise errors.BadDay

    def left(self, kind, day):
        self.check_asked(kind, day)
        lots, outs = [], []
        for number in self.lots(kind):
            row = self.books["lots"][number - 1]
            free = row["count"] - self.claimed(lot=number)
            if free and row["day"] <= day:
                lots.append((number, row["day"], free, row["duty"]))
        for number in self.outs(kind):
            row = self.books["outs"][number - 1]
            free = row["count"] * self.units(row["kind"], kind) - self.claimed(out=number, kind=kind)
            if free and 0 <= day - row["day"] <= self.rules[1]:
                outs.append((number, row["day"], free))
        return (lots, outs)

    def bare(self, kind, day):
        lots, outs = self.left(kind, day)
        return [row[1:] for row in lots], [row[1:] for row in outs], self.rules[0]

    def due(self, kind, day):
        lots, outs = self.left(kind, day)
        goods, gone, term = self.bare(kind, day)
        rows = told_dealing(goods, gone, term, flow_best(goods, gone, term))
        return [(lots[lot][0], outs[out][0], units) for lot, out, units in rows]

    def refund(self, kind, day):
        goods, gone, term = self.bare(kind, day)
        return refund_of(goods, flow_best(goods, gone, term))

    def account(self, kind, day):
        self.check_asked(kind, day)
        rows = [row for row in self.books["lots"] if row["stands"] and row["kind"] == kind and row["day"] <= day]
        duties = sum(row["count"] * row["duty"] for row in rows)
        claims = [claim for claim in self.standing() if claim["kind"] == kind and claim["day"] <= day]
        given = sum(claim["paid"] for claim in claims)
        kept = sum(claim["worth"] for claim in claims) - given
        free = self.refund(kind, day)
        return (duties, given, kept, free, duties - given - kept - free)

    # Deeds.

    def deeds(self):
        return [deed for deed, books in self.past]

    def do(self, deed):
        books = copy.deepcopy(self.books)
        told = getattr(self, "do_" + deed[0])(*deed[1:])
        self.past.append((deed, books))
        self.future = []
        return told

    def undo(self):
        if not self.past:
            raise errors.NothingLeft
        deed, books = self.past.pop()
        self.future.append((deed, self.books))
        self.books = books
        return deed

    def redo(self):
        if not self.future:
            raise errors.NothingLeft
        deed, books = self.future.pop()
        self.past.append((deed, self.books))
        self.books = books
        return deed

    def twin(self):
        return copy.deepcopy(self)

    def entered(self, book, row, most=30):
        if len(self.books[book]) >= most:
            raise errors.Full
        self.books[book].append(row)
        return len(self.books[book])

    def do_raw(self):
        return self.entered("kinds", None, 12)

    def do_made(self, parts):
        names = [kind for kind, number in parts]
        if not parts or any(one >= two for one, two in zip(names, names[1:])):
            raise errors.BadParts
        if any(not 1 <= kind <= self.kinds() or not 1 <= number <= 100 for kind, number in parts):
            raise errors.BadParts
        for base in range(1, self.kinds() + 1):
            if sum(number * self.units(kind, base) for kind, number in parts) > 10000:
                raise errors.TooMuch
        return self.entered("kinds", list(parts), 12)

    def do_come(self, kind, day, count, duty):
        self.check_asked(kind, day)
        if not 1 <= count <= 1000000:
            raise errors.BadCount
        if not 1 <= duty <= 1000000:
            raise errors.BadDuty
        return self.entered("lots", {"kind": kind, "day": day, "count": count, "duty": duty, "stands": True})

    def do_go(self, kind, day, count):
        self.is_raw(kind)
        if not 1 <= day <= 999:
            raise errors.BadDay
        if not 1 <= count <= 1000000:
            raise errors.BadCount
        return self.entered("outs", {"kind": kind, "day": day, "count": count, "stands": True})

    def do_strike_lot(self, number):
        row = self.row("lots", number, errors.NoLot)
        if not row["stands"]:
            raise errors.Struck
        if self.claimed(lot=number):
            raise errors.Claimed
        row["stands"] = False

    def do_strike_out(self, number):
        row = self.row("outs", number, errors.NoOut)
        if not row["stands"]:
            raise errors.Struck
        if self.claimed(out=number):
            raise errors.Claimed
        row["stands"] = False

    def do_lay(self, kind, day):
        triples = self.due(kind, day)
        if not triples:
            raise errors.NothingDue
        worth = self.refund(kind, day)
        return self.entered("claims", {
            "kind": kind, "day": day, "worth": worth, "paid": worth * self.rules[2] // 100,
            "triples": triples, "stands": True,
        })

    def do_call_back(self, number):
        row = self.row("claims", number, errors.NoClaim)
        if not row["stands"]:
            raise errors.Called
        row["stands"] = False


def raws_of(house):
    return [kind for kind in range(1, house.kinds() + 1) if house.is_raw(kind)]


def books_of(house):
    """All that the books of a house tell, whichever day it is."""
    kinds, raws = range(1, house.kinds() + 1), raws_of(house)
    told = {
        "terms": house.terms(), "deeds": house.deeds(), "claims": house.claims(), "purse": house.purse(),
        "is_raw": [house.is_raw(kind) for kind in kinds], "holds": [house.holds(kind) for kind in kinds],
        "lots": [house.lots(kind) for kind in raws], "outs": [house.outs(kind) for kind in raws],
        "sureties": [house.surety(wait) for wait in (0, 3, 30, 400)],
    }
    for name, refusal in [("lot", errors.NoLot), ("out", errors.NoOut), ("claim", errors.NoClaim)]:
        told[name] = []
        try:
            for number in range(1, 99):
                told[name].append(getattr(house, name)(number))
        except refusal:
            pass
    return told


def answers_of(house, days):
    """What is left and due of each raw kind on days, and the accounts."""
    return {
        (name, kind, day): getattr(house, name)(kind, day)
        for kind in raws_of(house)
        for day in days
        for name in QUESTIONS
    }


def days_of(house):
    """The days of all entries of a house."""
    told = books_of(house)
    return sorted({row[1] for name in ("lot", "out", "claim") for row in told[name]})


def some_days(chance, house, many):
    """Days of the entries, beside them, or any."""
    days = days_of(house) or [1]
    told = []
    for step in range(many):
        near = chance.choice(days) + chance.choice([-1, 0, 0, 0, 1, chance.randint(-40, 40)])
        told.append(min(999, max(1, chance.choice([near, near, chance.randint(1, 999)]))))
    return told


def some_terms(chance):
    """A term, a limit and a share."""
    term, limit = [chance.choice([0, 1, 5, 30, 200, 400, chance.randint(0, 400)]) for step in range(2)]
    return (term, chance.choice([limit, 400]), chance.choice([1, 50, 99, 100, chance.randint(1, 100)]))


class Maker:
    """Deeds of a house, of days near one another, with numbers out of their bounds now and then."""

    def __init__(self, chance, wrong=0.04, units=None):
        self.chance = chance
        self.wrong = wrong
        self.span = chance.choice([1, 5, 5, 40, 400])
        self.first = chance.randint(1, 990 - self.span)
        self.units = units or chance.choice([1, 3, 20, 1000, 1000000])
        self.duties = chance.choice([1, 3, 100, 1000000])
        self.kinds = chance.choice([1, 1, 2, 3, 4, 12])

    def number(self, good, *bad):
        """A good number, or now and then a bad one."""
        return self.chance.choice(bad + (FAR, -FAR)) if self.chance.random() < self.wrong else good

    def kind(self, house, raw):
        """The number of a kind, mostly a raw one where such is asked for."""
        kinds = [kind for kind in range(1, house.kinds() + 1) if not raw or house.is_raw(kind)]
        return self.number(self.chance.choice(kinds or [1]), *range(0, house.kinds() + 2))

    def day(self, later=0):
        return self.number(self.chance.randint(self.first, self.first + self.span) + later, 0, -1, 1000)

    def count(self):
        return self.number(self.chance.randint(1, self.units), 0, -1, 1000001)

    def parts(self, house):
        many, chance = house.kinds(), self.chance
        names = sorted(chance.sample(range(1, many + 1), min(many, chance.randint(1, 3))))
        most = chance.choice([3, 3, 100])
        told = [
            (self.number(kind, 0, many, many + 1), self.number(chance.randint(1, most), 0, 101))
            for kind in names
        ]
        return tuple(told[::-1] if chance.random() < self.wrong else told)

    def entry(self, house, name):
        """The number of an entry that there is, or beside."""
        many = len(books_of(house)[name])
        return self.number(self.chance.randint(1, max(1, many)), 0, -1, many + 1)

    def come(self, house):
        duty = self.number(self.chance.randint(1, self.duties), 0, -1, 1000001)
        return ("come", self.kind(house, True), self.day(), self.count(), duty)

    def go(self, house):
        """An out, mostly of a day that reaches a lot."""
        told = books_of(house)["lot"]
        if not told or self.chance.random() < 0.3:
            return ("go", self.kind(house, False), self.day(self.chance.choice([0, 1, 5, 9])), self.count())
        lot = self.chance.choice(told)
        kinds = [kind for kind in range(1, house.kinds() + 1) if lot[0] in dict(house.holds(kind))]
        day = min(999, lot[1] + self.chance.randint(0, min(60, house.terms()[0] + 1)))
        return ("go", self.number(self.chance.choice(kinds), 0), self.number(day, 0, 1000), self.count())

    def lay(self, house):
        """A claim, mostly of what is due."""
        told = books_of(house)["out"]
        if self.chance.random() < 0.1:
            return ("lay", self.kind(house, True), self.day(self.chance.choice([0, 1, 40])))
        for step in range(6 if told else 0):
            out = self.chance.choice(told)
            base = self.chance.choice(house.holds(out[0]))[0]
            day = min(999, out[1] + self.chance.choice([0, 0, 1, 3, 30]))
            if house.due(base, day) or self.chance.random() < 0.02:
                return ("lay", self.number(base, 0, house.kinds()), self.number(day, 0, 1000))
        return self.chance.choice([self.come, self.go])(house)

    def name(self, house):
        if house.kinds() < self.kinds and self.chance.random() < (0.6 if house.kinds() else 0.95):
            return self.chance.choice(["raw", "raw", "made"] if house.kinds() else ["raw"])
        names = 6 * ["come", "go"] + 4 * ["lay"] + 2 * ["call_back"] + ["strike_lot", "strike_out"]
        return self.chance.choice(names + ["raw", "made"] * (self.kinds == 12))

    def deed(self, house):
        """A deed, mostly one that can be done."""
        name = self.name(house)
        if name == "raw":
            return (name,)
        if name == "made":
            return (name, self.parts(house))
        if name in ("come", "go", "lay"):
            return getattr(self, name)(house)
        if name == "call_back" and not books_of(house)["claim"] and self.chance.random() < 0.9:
            return self.lay(house)
        return (name, self.entry(house, {"call_back": "claim", "strike_lot": "lot", "strike_out": "out"}[name]))
