"""Claims of a house, their calling back, its accounts, its purse and its surety."""

import random
import unittest

from books import flow_best, refund_of
from drawback.errors import BadTerm, Called, Claimed, NothingDue
from drawback.house import House
from model import Maker, books_of, raws_of, some_days, some_terms
from pairs import Pairs
from refusals import NO_TERMS, outcome


def whole(house, kind):
    """All lots and outs of a raw kind that stand, whatever is claimed of them."""
    lots = [house.lot(number)[1:4] for number in house.lots(kind)]
    outs = [
        (house.out(number)[1], house.out(number)[2] * dict(house.holds(house.out(number)[0]))[kind])
        for number in house.outs(kind)
    ]
    return lots, outs


def claimed_units(house, place):
    """The units of standing claims, by kind and lot (place 0) or out (place 1)."""
    told = {}
    for number in house.claims():
        kind, day, paid, stands, triples = house.claim(number)
        for triple in triples:
            key = (kind, triple[place])
            told[key] = told.get(key, 0) + triple[2]
    return told


class Laid(Pairs):
    def check_claimed(self, house):
        """Of no lot and out more units claimed than there are, and no more than the greatest refund."""
        for (kind, lot), units in claimed_units(house, 0).items():
            self.assertEqual(house.lot(lot)[0], kind)
            self.assertEqual(house.lot(lot)[4], units)
            self.assertLessEqual(units, house.lot(lot)[2])
        for (kind, out), units in claimed_units(house, 1).items():
            row = house.out(out)
            self.assertLessEqual(units, row[2] * dict(house.holds(row[0]))[kind])
        term = house.terms()[0]
        for kind in raws_of(house):
            lots, outs = whole(house, kind)
            worth = sum(
                units * house.lot(lot)[3] for (base, lot), units in claimed_units(house, 0).items() if base == kind
            )
            self.assertLessEqual(worth, refund_of(lots, flow_best(lots, outs, term)))

    def test_any(self):
        chance = random.Random(1)
        laid = 0
        for step in range(120):
            house, model = self.pair(*some_terms(chance))
            maker = Maker(chance, 0.01)
            maker.kinds = chance.randint(1, 3)
            kept = {}
            for place in range(30):
                deed = maker.deed(model)
                told = self.step(house, model, deed)
                if deed[0] == "lay" and not isinstance(told, type):
                    laid += 1
                    kept[told] = house.claim(told)
                    self.assertEqual(house.due(deed[1], deed[2]), [])
                    self.assertEqual(house.refund(deed[1], deed[2]), 0)
                    self.assertIs(outcome(house.lay, deed[1], deed[2]), NothingDue)
                for number, claim in kept.items():
                    row = house.claim(number)
                    self.assertEqual(row[:3] + row[4:], claim[:3] + claim[4:])
                    self.assertIs(row[3], number in house.claims())
            self.check_claimed(house)
        self.assertGreater(laid, 200)

    def test_number_kind_day_coins_and_triples(self):
        house = House(10, 20, 33)
        house.raw(), house.raw()
        house.come(2, 5, 10, 7)
        house.go(2, 9, 4)
        self.assertEqual((house.due(2, 9), house.refund(2, 9)), ([(1, 1, 4)], 28))
        self.assertEqual(house.lay(2, 9), 1)
        self.assertEqual(house.claim(1), (2, 9, 9, True, ((1, 1, 4),)))
        self.assertEqual([type(house.claim(1)), type(house.claim(1)[4])], [tuple, tuple])
        # Told late, for a day ahead of the claim's: what is claimed stays so.
        house.come(2, 3, 10, 9)
        house.go(2, 8, 2)
        self.assertEqual(house.claim(1), (2, 9, 9, True, ((1, 1, 4),)))
        self.assertEqual(house.left(2, 9), ([(1, 5, 6, 7), (2, 3, 10, 9)], [(2, 8, 2)]))
        self.assertEqual(house.due(2, 9), [(2, 2, 2)])
        self.assertEqual(house.lay(2, 9), 2)
        self.assertEqual(house.claim(2), (2, 9, 5, True, ((2, 2, 2),)))
        self.assertEqual(house.claims(), [1, 2])

    def test_whole_coins(self):
        for share, refund, paid in [
            (1, 99, 0), (1, 100, 1), (1, 199, 1), (99, 1, 0), (100, 1, 1), (50, 3, 1), (33, 100, 33),
        ]:
            house = House(0, 0, share)
            house.raw()
            house.come(1, 5, refund, 1)
            house.go(1, 5, refund)
            house.lay(1, 5)
            self.assertEqual(house.claim(1)[2], paid)
            self.assertEqual(house.purse(), paid)
            self.assertEqual(house.account(1, 5), (refund, paid, refund - paid, 0, 0))
            self.assertEqual(house.surety(0), (paid, 5) if paid else (0, 0))

    def test_the_last_day_of_a_house_without_claims(self):
        chance = random.Random(2)
        for step in range(60):
            term, limit, share = some_terms(chance)
            house, model = self.pair(term, 400, share)
            maker = Maker(chance, 0)
            maker.kinds, maker.span = 2, 100
            maker.first = 500
            for place in range(14):
                deed = maker.deed(model)
                if deed[0] != "lay":
                    self.step(house, model, deed)
            days = [row[1] for name in ("lot", "out") for row in books_of(house)[name]]
            for kind in raws_of(house):
                lots, outs = whole(house, kind)
                greatest = refund_of(lots, flow_best(lots, outs, term))
                self.assertEqual(house.refund(kind, max(days, default=5)), greatest)


class CalledBack(Pairs):
    def test_as_if_only_the_others_were_laid(self):
        chance = random.Random(3)
        for step in range(40):
            terms = (chance.choice([5, 30]), 400, chance.randint(1, 100))
            kinds = list(range(1, chance.randint(2, 5)))
            deeds = [("raw",)] * len(kinds) + [("made", tuple((kind, chance.randint(1, 3)) for kind in kinds))]
            for place in range(10):
                deeds.append(("come", chance.choice(kinds), chance.randint(50, 60), chance.randint(1, 9), place + 1))
                deeds.append(("go", len(kinds) + 1, chance.randint(55, 65), chance.randint(1, 2)))
            house, model = self.built(terms, *deeds)
            laid = [kind for kind in kinds if not isinstance(self.step(house, model, ("lay", kind, 70)), type)]
            back = chance.sample(range(len(laid)), chance.randint(0, len(laid)))
            for at in back:
                self.assertIsNone(self.step(house, model, ("call_back", at + 1)))
                self.assertIs(self.step(house, model, ("call_back", at + 1)), Called)
            other = House(*terms)
            for deed in deeds + [("lay", kind, 70) for at, kind in enumerate(laid) if at not in back]:
                other.do(deed)
            self.assertEqual(house.purse(), other.purse())
            self.assertEqual(books_of(house)["lot"], books_of(other)["lot"])
            self.assertEqual(house.surety(30), other.surety(30))
            for kind in kinds:
                for day in some_days(chance, house, 3):
                    self.assertEqual(house.due(kind, day), other.due(kind, day))
                    self.assertEqual(house.account(kind, day), other.account(kind, day))

    def test_in_any_order_until_none_stands(self):
        chance = random.Random(4)
        for step in range(40):
            house, model = self.pair(*some_terms(chance))
            maker = Maker(chance, 0)
            maker.kinds = chance.randint(1, 3)
            for place in range(30):
                self.step(house, model, maker.deed(model))
            for number in chance.sample(house.claims(), len(house.claims())):
                paid, purse = house.claim(number)[2], house.purse()
                self.assertIsNone(self.step(house, model, ("call_back", number)))
                self.assertEqual(house.purse(), purse - paid)
                self.assertIs(self.step(house, model, ("call_back", number)), Called)
            self.assertEqual((house.purse(), house.claims(), house.surety(400)), (0, [], (0, 0)))
            self.assertTrue(all(row[4] == 0 for row in books_of(house)["lot"]))
            self.check_answers(house, model, some_days(chance, model, 2))

    def test_striking(self):
        house, model = self.built(
            (9, 9, 9), ("raw",), ("raw",), ("made", ((1, 1), (2, 1))), ("come", 1, 5, 5, 5), ("come", 2, 5, 9, 5),
            ("go", 3, 6, 3), ("go", 2, 6, 8), ("lay", 2, 6),
        )
        for deed in [("strike_lot", 2), ("strike_out", 1), ("strike_out", 2)]:
            self.assertIs(self.step(house, model, deed), Claimed)
        self.assertEqual(self.step(house, model, ("lay", 1, 6)), 2)
        self.assertIsNone(self.step(house, model, ("call_back", 1)))
        self.assertIs(self.step(house, model, ("strike_out", 1)), Claimed)
        for deed in [("strike_out", 2), ("strike_lot", 2), ("call_back", 2), ("strike_out", 1), ("strike_lot", 1)]:
            self.assertIsNone(self.step(house, model, deed))
        self.assertEqual(house.account(1, 6), (0, 0, 0, 0, 0))


class Accounts(Pairs):
    def test_the_five_agree(self):
        chance = random.Random(5)
        for step in range(80):
            house, model = self.pair(*some_terms(chance))
            maker = Maker(chance)
            maker.kinds = chance.randint(1, 3)
            for place in range(26):
                self.step(house, model, maker.deed(model), True)
                for kind in raws_of(house)[:2]:
                    for day in some_days(chance, house, 1) + [999]:
                        told = house.account(kind, day)
                        self.assertEqual(told[0], sum(told[1:]))
                        self.assertTrue(all(number >= 0 for number in told))
                        self.assertEqual(told, model.account(kind, day))
                        self.assertEqual(told[3], house.refund(kind, day))

    def test_claims_of_later_days_count_to_the_rest(self):
        house = House(30, 30, 50)
        house.raw()
        house.come(1, 10, 10, 4)
        house.go(1, 12, 3)
        house.lay(1, 20)
        self.assertEqual(house.account(1, 19), (40, 0, 0, 0, 40))
        self.assertEqual(house.account(1, 20), (40, 6, 6, 0, 28))
        self.assertEqual(house.account(1, 9), (0, 0, 0, 0, 0))
        house.go(1, 13, 2)
        self.assertEqual(house.account(1, 13), (40, 0, 0, 8, 32))
        self.assertEqual(house.account(1, 20), (40, 6, 6, 8, 20))
        house.come(1, 10, 1, 100)
        house.strike_lot(2)
        self.assertEqual(house.account(1, 20), (40, 6, 6, 8, 20))
        house.call_back(1)
        self.assertEqual(house.account(1, 20), (40, 0, 0, 20, 20))

    def test_other_kinds_are_not_among_them(self):
        house = House(30, 30, 50)
        house.raw(), house.raw()
        for kind in (1, 2):
            house.come(kind, 10, 10, 4 * kind)
            house.go(kind, 12, 3)
        house.lay(1, 12)
        self.assertEqual(house.account(1, 12), (40, 6, 6, 0, 28))
        self.assertEqual(house.account(2, 12), (80, 0, 0, 24, 56))

    def test_surety(self):
        house, model = self.built((0, 0, 100), ("raw",))
        for day, units in [(100, 5), (110, 7), (300, 11), (310, 1), (700, 12)]:
            for deed in [("come", 1, day, units, 1), ("go", 1, day, units), ("lay", 1, day)]:
                self.step(house, model, deed)
        for wait, told in [
            (0, (12, 700)), (9, (12, 700)), (10, (12, 110)), (189, (12, 110)), (190, (18, 300)),
            (200, (23, 300)), (209, (23, 300)), (210, (24, 310)), (400, (24, 310)),
        ]:
            self.assertEqual(house.surety(wait), told)
        self.assertIs(type(house.surety(0)), tuple)
        self.step(house, model, ("call_back", 3))
        self.assertEqual((house.surety(0), house.surety(200)), ((12, 700), (12, 110)))

    def test_waits_out_of_bounds(self):
        house, model = self.built((5, 5, 100), ("raw",), ("come", 1, 5, 5, 5), ("go", 1, 5, 5), ("lay", 1, 5))
        for asked in (house, House(0, 0, 1)):
            self.assertEqual({outcome(asked.surety, wait) for wait in NO_TERMS}, {BadTerm})
        self.check_class(BadTerm)
        self.check_books(house, model)


if __name__ == "__main__":
    unittest.main()
