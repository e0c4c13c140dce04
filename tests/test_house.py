import random
import unittest

from drawback.errors import (
    BadCount, BadDay, BadDuty, BadParts, BadShare, BadTerm, Called, Claimed, Full, NoClaim, NoKind, NoLot, NoOut,
    NotRaw, NothingDue, Struck, TooMuch,
)
from drawback.house import House
from model import Maker, books_of, some_days, some_terms
from pairs import Pairs, called
from refusals import FAR, NO_DAYS, NO_DUTIES, NO_TERMS, outcome

NO_SHARES = [-FAR, -1, 0, 101, 102, FAR]
NO_UNITS = [-FAR, -1, 0, 1000001, 10000000000, FAR]

# Kinds 1 and 2 are raw, 3 is made of both; lot 1 and outs 1 and 2 are claimed, 2 and 3 struck.
STANDING = [
    ("raw",), ("raw",), ("made", ((1, 2), (2, 3))), ("come", 1, 10, 100, 5), ("come", 1, 10, 50, 3),
    ("come", 2, 12, 40, 9), ("go", 1, 11, 10), ("go", 3, 12, 4), ("go", 1, 12, 3), ("strike_out", 3),
    ("strike_lot", 2), ("lay", 1, 12),
]


class New(unittest.TestCase):
    def test_a_new_one(self):
        for terms in [(0, 0, 1), (400, 400, 100), (30, 90, 80), (0, 400, 100), (400, 0, 1)]:
            house = House(*terms)
            self.assertEqual(house.terms(), terms)
            self.assertIs(type(house.terms()), tuple)
            self.assertEqual((house.kinds(), house.claims(), house.purse(), house.deeds()), (0, [], 0, []))
            for wait in (0, 7, 400):
                self.assertEqual(house.surety(wait), (0, 0))

    def test_terms_out_of_bounds(self):
        for term in NO_TERMS:
            self.assertIs(outcome(House, term, 0, 1), BadTerm)
            self.assertIs(outcome(House, 400, term, 100), BadTerm)
            self.assertIs(outcome(House, term, term, 0), BadTerm)
        for share in NO_SHARES:
            self.assertIs(outcome(House, 0, 400, share), BadShare)
            self.assertIs(outcome(House, 401, 400, share), BadTerm)
            self.assertIs(outcome(House, 400, -1, share), BadTerm)

    def test_any_terms(self):
        chance = random.Random(1)
        for step in range(300):
            term, limit = [chance.choice([0, 1, 399, 400] + NO_TERMS) for place in range(2)]
            share = chance.choice([1, 2, 99, 100] + NO_SHARES)
            told = outcome(House, term, limit, share)
            if term in NO_TERMS or limit in NO_TERMS:
                self.assertIs(told, BadTerm)
            elif share in NO_SHARES:
                self.assertIs(told, BadShare)
            else:
                self.assertEqual(told.terms(), (term, limit, share))

    def test_numbers_that_none_have(self):
        empty, house = House(5, 5, 5), House(30, 90, 80)
        for deed in STANDING:
            house.do(deed)
        for asked, many in [(empty, 0), (house, None)]:
            for name, refusal, there in [("lot", NoLot, 3), ("out", NoOut, 3), ("claim", NoClaim, 1)]:
                there = there if many is None else many
                for number in [-FAR, -1, 0, there + 1, there + 2, 30, 31, FAR]:
                    self.assertIs(outcome(getattr(asked, name), number), refusal)
            for name in ("is_raw", "holds", "lots", "outs"):
                for kind in [-FAR, -1, 0, asked.kinds() + 1, 12, 13, FAR]:
                    self.assertIs(outcome(getattr(asked, name), kind), NoKind)
        for name in ("lots", "outs"):
            self.assertIs(outcome(getattr(house, name), 3), NotRaw)


class Ordinary(unittest.TestCase):
    def test_a_house(self):
        house = House(30, 90, 80)
        self.assertEqual([house.raw(), house.raw(), house.made([(1, 2), (2, 3)])], [1, 2, 3])
        self.assertEqual([house.come(1, 10, 100, 5), house.come(2, 12, 40, 9)], [1, 2])
        self.assertEqual([house.go(1, 11, 10), house.go(3, 12, 4)], [1, 2])
        self.assertEqual(house.left(1, 12), ([(1, 10, 100, 5)], [(1, 11, 10), (2, 12, 8)]))
        self.assertEqual(house.left(2, 12), ([(2, 12, 40, 9)], [(2, 12, 12)]))
        self.assertEqual(house.due(1, 12), [(1, 1, 10), (1, 2, 8)])
        self.assertEqual(house.due(1, 11), [(1, 1, 10)])
        self.assertEqual((house.refund(1, 12), house.refund(2, 12)), (90, 108))
        self.assertEqual(house.papers(1, 12), [(5, 18, [(10, 10)])])
        self.assertEqual(house.account(1, 12), (500, 0, 0, 90, 410))
        self.assertEqual(house.lay(1, 12), 1)
        self.assertEqual(house.claim(1), (1, 12, 72, True, ((1, 1, 10), (1, 2, 8))))
        self.assertEqual(house.lay(2, 13), 2)
        self.assertEqual(house.claim(2), (2, 13, 86, True, ((2, 2, 12),)))
        self.assertEqual(house.account(1, 12), (500, 72, 18, 0, 410))
        self.assertEqual(house.account(2, 13), (360, 86, 22, 0, 252))
        self.assertEqual(house.account(2, 12), (360, 0, 0, 0, 360))
        self.assertEqual((house.purse(), house.surety(0), house.surety(1)), (158, (86, 13), (158, 13)))
        self.assertEqual((house.lot(1), house.lot(2)), ((1, 10, 100, 5, 18, True), (2, 12, 40, 9, 12, True)))
        self.assertIsNone(house.call_back(1))
        self.assertEqual(house.claim(1), (1, 12, 72, False, ((1, 1, 10), (1, 2, 8))))
        self.assertEqual((house.claims(), house.purse(), house.lot(1)), ([2], 86, (1, 10, 100, 5, 0, True)))
        self.assertIsNone(house.strike_lot(1))
        self.assertIsNone(house.strike_out(1))
        self.assertEqual((house.lot(1), house.out(1)), ((1, 10, 100, 5, 0, False), (1, 11, 10, False)))
        self.assertEqual((house.lots(1), house.outs(1), house.lots(2), house.outs(2)), ([], [2], [2], [2]))
        self.assertEqual(house.deeds()[2:4], [("made", ((1, 2), (2, 3))), ("come", 1, 10, 100, 5)])
        self.assertEqual(house.deeds()[-2:], [("strike_lot", 1), ("strike_out", 1)])

    def test_parts_are_kept_as_a_copy(self):
        house, parts = House(1, 1, 1), [(1, 2)]
        house.raw()
        house.made(parts)
        parts[0] = (1, 99)
        parts.append((2, 9))
        self.assertEqual((house.holds(2), house.deeds()), ([(1, 2)], [("raw",), ("made", ((1, 2),))]))


class Deeds(Pairs):
    def test_any(self):
        chance = random.Random(2)
        for step in range(150):
            house, model = self.pair(*some_terms(chance))
            maker = Maker(chance, chance.choice([0.01, 0.05, 0.3]))
            for place in range(26):
                self.step(house, model, maker.deed(model), chance.random() < 0.5)
            self.check_answers(house, model, some_days(chance, model, 2))

    def test_bad_parts_and_too_much(self):
        house, model = self.built((30, 90, 80), ("raw",), ("made", ((1, 100),)), ("made", ((2, 100),)), ("raw",))
        for parts in [
            (), ((1, 1), (1, 1)), ((2, 1), (1, 1)), ((5, 1),), ((0, 1),), ((FAR, 1),), ((-FAR, 1),), ((1, 0),),
            ((1, 101),), ((1, FAR),), ((1, 1), (4, -FAR)), ((3, 101),), ((3, 2), (1, 1)),
        ]:
            self.assertIs(self.step(house, model, ("made", parts), True), BadParts)
            self.assertIs(self.step(house, model, ("made", parts)), BadParts)
        for parts in [((3, 2),), ((1, 1), (3, 1)), ((3, 100), (4, 1))]:
            self.assertIs(self.step(house, model, ("made", parts), True), TooMuch)
        self.assertEqual(self.step(house, model, ("made", ((3, 1), (4, 100))), True), 5)
        self.assertEqual(house.holds(5), [(1, 10000), (4, 100)])

    def check_each(self, deed, bad):
        """Each bad number by itself; of any two the one that is asked first."""
        house, model = self.built((30, 90, 80), *STANDING)
        spots = [(at, value, refusal) for at, values in bad for value, refusal in values]
        for at, value, refusal in spots:
            for other, more, later in spots + [(at, value, None)]:
                if other >= at:
                    given = list(deed)
                    given[other], given[at] = more, value
                    told = outcome(called, house, tuple(given))
                    self.check_class(told)
                    self.assertIs(told, refusal, given)
        self.check_books(house, model)

    def test_come_and_go_and_lay_refused(self):
        none = [(kind, NoKind) for kind in [-FAR, -1, 0, 4, 5, 12, 13, FAR]]
        days = [(day, BadDay) for day in NO_DAYS]
        units = [(count, BadCount) for count in NO_UNITS]
        duties = [(duty, BadDuty) for duty in NO_DUTIES]
        made = [(3, NotRaw)]
        self.check_each(("come", 1, 20, 5, 5), [(1, none + made), (2, days), (3, units), (4, duties)])
        self.check_each(("go", 3, 20, 5), [(1, none), (2, days), (3, units)])
        later = [(day, NothingDue) for day in (1, 11, 103, 999)]
        self.check_each(("lay", 2, 12), [(1, none + made), (2, days + later)])

    def test_counts_at_their_bounds(self):
        house, model = self.built((30, 90, 80), *STANDING)
        for count in (1, 1000000):
            for duty in (1, 1000000):
                self.assertNotIsInstance(self.step(house, model, ("come", 1, 1, count, duty)), type)
            self.assertNotIsInstance(self.step(house, model, ("go", 3, 999, count)), type)

    def test_strikes_and_callings_back_refused(self):
        house, model = self.built((30, 90, 80), *STANDING)
        for name, refusal, many in [("strike_lot", NoLot, 3), ("strike_out", NoOut, 3), ("call_back", NoClaim, 1)]:
            for number in [-FAR, -1, 0, many + 1, many + 2, 31, FAR]:
                self.assertIs(self.step(house, model, (name, number), True), refusal)
        self.assertIs(self.step(house, model, ("strike_lot", 1)), Claimed)
        self.assertIs(self.step(house, model, ("strike_lot", 2)), Struck)
        self.assertIs(self.step(house, model, ("strike_out", 1)), Claimed)
        self.assertIs(self.step(house, model, ("strike_out", 2)), Claimed)
        self.assertIs(self.step(house, model, ("strike_out", 3)), Struck)
        self.assertIsNone(self.step(house, model, ("call_back", 1)))
        self.assertIs(self.step(house, model, ("call_back", 1)), Called)
        for deed in [("strike_lot", 1), ("strike_out", 1), ("strike_out", 2), ("strike_lot", 3)]:
            self.assertIsNone(self.step(house, model, deed))
            self.assertIs(self.step(house, model, deed), Struck)

    def test_two_houses_never_know_of_one_another(self):
        chance = random.Random(3)
        for step in range(25):
            pairs = [self.pair(*some_terms(chance)), self.pair(*some_terms(chance))]
            maker = Maker(chance)
            for place in range(26):
                deed = maker.deed(chance.choice(pairs)[1])
                for house, model in chance.choice([pairs, pairs[:1], pairs[1:]]):
                    self.step(house, model, deed)
                for house, model in pairs:
                    self.check_books(house, model)


class Bounds(Pairs):
    def all_back_and_again(self, house, model):
        """All taken back, and all done again."""
        kept = books_of(house)
        many = len(house.deeds())
        for step in range(many):
            self.assertEqual(outcome(house.undo), model.undo())
        self.check_books(house, model)
        self.assertEqual((house.deeds(), house.kinds(), house.purse()), ([], 0, 0))
        for step in range(many):
            self.assertEqual(outcome(house.redo), model.redo())
        self.check_books(house, model)
        self.assertEqual(books_of(house), kept)

    def some_back(self, house, model, many):
        for step in range(many):
            self.back_or_again(house, model, "undo")

    def test_twelve_kinds(self):
        house, model = self.built((30, 90, 80), ("raw",), ("made", ((1, 100),)), ("made", ((2, 100),)))
        for step in range(2):
            while house.kinds() < 12:
                deed = ("raw",) if house.kinds() % 2 else ("made", ((1, 5), (2, 5)))
                self.assertEqual(self.step(house, model, deed), len(house.deeds()))
            self.assertIs(self.step(house, model, ("raw",)), Full)
            self.assertIs(self.step(house, model, ("made", ((1, 1), (12, 1)))), Full)
            self.assertIs(self.step(house, model, ("made", ((3, 2),))), TooMuch)
            self.assertIs(self.step(house, model, ("made", ((13, 2),))), BadParts)
            self.assertIs(self.step(house, model, ("made", ())), BadParts)
            self.some_back(house, model, 4)
        self.all_back_and_again(house, model)

    def test_thirty_lots(self):
        house, model = self.built((30, 90, 80), ("raw",), ("made", ((1, 2),)), ("go", 1, 20, 5))
        for step in range(2):
            for number in range(len(books_of(house)["lot"]) + 1, 31):
                self.assertEqual(self.step(house, model, ("come", 1, number, 5, number)), number)
                if number % 4 == 0:
                    self.step(house, model, ("strike_lot", number - 1))
            self.assertIs(self.step(house, model, ("come", 1, 5, 5, 5)), Full)
            for deed, refusal in [
                (("come", 3, 0, 0, 0), NoKind), (("come", 2, 0, 0, 0), NotRaw), (("come", 1, 0, 0, 0), BadDay),
                (("come", 1, 1, 0, 0), BadCount), (("come", 1, 1, 1, 0), BadDuty),
            ]:
                self.assertIs(self.step(house, model, deed), refusal)
            self.assertEqual(self.step(house, model, ("go", 2, 30, 7)), 2)
            self.some_back(house, model, 9 * (1 - step))
        self.assertEqual(self.step(house, model, ("lay", 1, 30)), 1)
        self.assertIs(self.step(house, model, ("come", 1, 5, 5, 5)), Full)
        self.all_back_and_again(house, model)

    def test_thirty_outs(self):
        house, model = self.built((30, 90, 80), ("raw",), ("made", ((1, 2),)), ("come", 1, 1, 50, 5))
        for step in range(2):
            for number in range(len(books_of(house)["out"]) + 1, 31):
                self.assertEqual(self.step(house, model, ("go", 1 + number % 2, number, 1)), number)
                if number % 4 == 0:
                    self.step(house, model, ("strike_out", number))
            self.assertIs(self.step(house, model, ("go", 1, 5, 5)), Full)
            for deed, refusal in [(("go", 3, 0, 0), NoKind), (("go", 2, 0, 0), BadDay), (("go", 2, 1, 0), BadCount)]:
                self.assertIs(self.step(house, model, deed), refusal)
            self.some_back(house, model, 7 * (1 - step))
        self.assertEqual(self.step(house, model, ("lay", 1, 30)), 1)
        self.all_back_and_again(house, model)

    def test_thirty_claims(self):
        house, model = self.built((30, 90, 80), ("raw",), ("raw",), ("made", ((1, 1), (2, 1))))
        for number in range(1, 31):
            self.step(house, model, ("come", 1 + number % 2, number, 5, number))
        for step in range(2):
            for number in range(len(books_of(house)["claim"]) + 1, 31):
                self.step(house, model, ("go", 3, number, 3))
                self.assertEqual(self.step(house, model, ("lay", 1 + number % 2, number)), number)
                if number % 5 == 0:
                    self.step(house, model, ("call_back", number - 2))
            self.assertIs(self.step(house, model, ("lay", 4, 0)), NoKind)
            self.assertIs(self.step(house, model, ("lay", 3, 0)), NotRaw)
            self.assertIs(self.step(house, model, ("lay", 1, 0)), BadDay)
            self.assertIs(self.step(house, model, ("lay", 1, 999)), NothingDue)
            self.assertTrue(house.due(1, 30))
            self.assertIs(self.step(house, model, ("lay", 1, 30)), Full)
            self.some_back(house, model, 5 * (1 - step))
        self.all_back_and_again(house, model)

    def test_a_number_is_not_given_again(self):
        house, model = self.built((30, 90, 80), ("raw",), ("come", 1, 1, 1, 1), ("strike_lot", 1))
        self.assertEqual(self.step(house, model, ("come", 1, 1, 1, 1)), 2)
        self.some_back(house, model, 1)
        self.assertEqual(self.step(house, model, ("come", 1, 1, 2, 1)), 2)
        self.assertEqual(self.step(house, model, ("go", 1, 1, 5)), 1)
        self.assertEqual(self.step(house, model, ("lay", 1, 1)), 1)
        self.assertIsNone(self.step(house, model, ("call_back", 1)))
        self.assertEqual(self.step(house, model, ("lay", 1, 1)), 2)


if __name__ == "__main__":
    unittest.main()
