"""What is left and due of a house's raw kinds on a day, its refund and its papers."""

import random
import unittest

from drawback.errors import BadDay, NoKind, NotRaw
from drawback.house import House
from model import Maker, answers_of, books_of, raws_of, some_days, some_terms
from pairs import Pairs, frozen
from refusals import FAR, NO_DAYS, outcome

ASKED = ["left", "due", "refund", "papers", "account"]


def some_entries(chance, model, kinds, many):
    """Deeds that make up to so many kinds, some of them made, and up to so many entries."""
    maker = Maker(chance, 0, chance.choice([1, 4, 100]))
    maker.kinds = chance.randint(1, kinds)
    deeds = [("raw",)]
    model.do(deeds[0])
    while len(books_of(model)["lot"]) + len(books_of(model)["out"]) < many:
        deed = maker.deed(model)
        if deed[0] in ("raw", "made", "come", "go"):
            if not isinstance(outcome(model.do, deed), type):
                deeds.append(deed)
    return deeds


def units_by_lots(triples):
    told = {}
    for lot, out, units in triples:
        told[lot] = told.get(lot, 0) + units
    return told


class Left(Pairs):
    def cases(self, seed, many):
        chance = random.Random(seed)
        for step in range(many):
            house, model = self.pair(*some_terms(chance))
            for deed in some_entries(chance, model, 5, chance.randint(2, 12)):
                house.do(deed)
            maker = Maker(chance)
            maker.first, maker.span = min(some_days(chance, model, 3)), 3
            for place in range(chance.choice([0, 8])):
                self.step(house, model, maker.deed(model))
            yield chance, house, model

    def test_any(self):
        for chance, house, model in self.cases(1, 120):
            days = some_days(chance, model, 4)
            self.check_answers(house, model, days)
            for kind in raws_of(model):
                for day in days[:2]:
                    self.check_papers(house, model, kind, day)
            self.check_books(house, model)

    def test_told_lists_changed_change_nothing(self):
        for chance, house, model in self.cases(2, 40):
            books, days = frozen(books_of(house)), some_days(chance, model, 2)
            for kind in raws_of(model):
                for day in days:
                    for name in ASKED:
                        told = getattr(house, name)(kind, day)
                        kept = frozen(told)
                        self.spoil(told)
                        self.assertEqual(getattr(house, name)(kind, day), kept)
            self.assertEqual(books_of(house), books)

    def test_the_kinds_of_what_is_told(self):
        house, model = self.built((5, 9, 50), ("raw",), ("come", 1, 5, 9, 9), ("go", 1, 6, 3))
        left = house.left(1, 6)
        self.assertEqual([type(left), type(left[0]), type(left[1])], [tuple, list, list])
        self.assertEqual({type(row) for row in left[0] + left[1] + house.due(1, 6)}, {tuple})
        self.assertEqual([type(house.due(1, 6)), type(house.account(1, 6))], [list, tuple])
        self.assertEqual([type(house.papers(1, 6)), type(house.papers(1, 6)[0])], [list, tuple])
        self.assertEqual((house.left(1, 4), house.due(1, 4), house.refund(1, 4)), (([], []), [], 0))
        self.assertEqual((house.papers(1, 4), house.account(1, 4)), ([], (0, 0, 0, 0, 0)))

    def test_the_edges_of_days(self):
        house = House(400, 10, 50)
        house.raw()
        house.come(1, 100, 5, 7)
        house.go(1, 100, 3)
        self.assertEqual(house.left(1, 99), ([], []))
        self.assertEqual(house.left(1, 100), ([(1, 100, 5, 7)], [(1, 100, 3)]))
        self.assertEqual(house.left(1, 110), ([(1, 100, 5, 7)], [(1, 100, 3)]))
        self.assertEqual(house.left(1, 111), ([(1, 100, 5, 7)], []))
        self.assertEqual(house.left(1, 999), ([(1, 100, 5, 7)], []))

    def test_of_one_day_the_lesser_number_is_elder(self):
        house = House(5, 5, 50)
        house.raw()
        for day in (7, 6, 7, 6):
            house.come(1, day, 2, 3)
        for day in (8, 7, 8):
            house.go(1, day, 2)
        self.assertEqual(house.due(1, 8), [(2, 2, 2), (4, 1, 2), (1, 3, 2)])

    def test_a_made_kind_that_holds_a_kind_by_two_ways(self):
        house = House(5, 5, 50)
        house.raw(), house.raw()
        house.made([(1, 2)])
        house.made([(1, 1), (3, 4)])
        house.come(1, 3, 1000, 1)
        house.go(4, 4, 5)
        house.go(2, 4, 5)
        self.assertEqual(house.left(1, 4), ([(1, 3, 1000, 1)], [(1, 4, 45)]))
        self.assertEqual((house.outs(1), house.outs(2)), ([1], [2]))
        house.strike_out(1)
        self.assertEqual((house.left(1, 4)[1], house.outs(1)), ([], []))


class Refused(Pairs):
    def test_kinds_and_days(self):
        chance = random.Random(3)
        for step in range(12):
            house, model = self.pair(*some_terms(chance))
            for deed in some_entries(chance, model, 5, 6) + [("raw",), ("made", ((1, 2),))]:
                house.do(deed)
            books, days = books_of(house), some_days(chance, house, 2)
            answers = answers_of(house, days)
            made = [kind for kind in range(1, house.kinds() + 1) if not house.is_raw(kind)]
            none = [-FAR, -1, 0, house.kinds() + 1, house.kinds() + 2, 13, FAR]
            for name in ASKED:
                ask = getattr(house, name)
                for day in NO_DAYS + [5]:
                    self.assertEqual({outcome(ask, kind, day) for kind in none}, {NoKind})
                    self.assertEqual({outcome(ask, kind, day) for kind in made}, {NotRaw})
                self.assertEqual({outcome(ask, 1, day) for day in NO_DAYS}, {BadDay})
            self.assertEqual((books_of(house), answers_of(house, days)), (books, answers))
        for refusal in (NoKind, NotRaw, BadDay):
            self.check_class(refusal)


class Alike(Pairs):
    def test_made_goods_are_as_their_raw_ones(self):
        chance = random.Random(4)
        for step in range(60):
            house, model = self.pair(*some_terms(chance))
            plain = House(*model.terms())
            for deed in some_entries(chance, model, 5, chance.randint(2, 10)):
                house.do(deed)
            # An out of several raw kinds is several outs, so their numbers aren't the same.
            numbers = {kind: plain.raw() for kind in raws_of(house)}
            for kind, day, count, duty, claimed, stands in books_of(house)["lot"]:
                plain.come(numbers[kind], day, count, duty)
            outs = books_of(house)["out"]
            if sum(len(house.holds(out[0])) for out in outs) > 30:
                continue
            for kind, day, count, stands in outs:
                for base, units in house.holds(kind):
                    self.assertLessEqual(count * units, 1000000)
                    plain.go(numbers[base], day, count * units)
            for day in some_days(chance, house, 3):
                for kind, number in numbers.items():
                    self.assertEqual(house.refund(kind, day), plain.refund(number, day))
                    self.assertEqual(house.account(kind, day), plain.account(number, day))
                    due, other = house.due(kind, day), plain.due(number, day)
                    self.assertEqual(units_by_lots(due), units_by_lots(other))

    def test_entries_in_any_order(self):
        chance = random.Random(5)
        for step in range(60):
            house, model = self.pair(*some_terms(chance))
            deeds = some_entries(chance, model, 4, chance.randint(2, 12))
            kinds = [deed for deed in deeds if deed[0] in ("raw", "made")]
            entries = [deed for deed in deeds if deed[0] in ("come", "go")]
            other = House(*model.terms())
            for deed in kinds + entries:
                house.do(deed)
            for deed in kinds + chance.sample(entries, len(entries)):
                other.do(deed)
            for day in some_days(chance, house, 3):
                for kind in raws_of(house):
                    self.assertEqual(house.refund(kind, day), other.refund(kind, day))
                    self.assertEqual(house.account(kind, day), other.account(kind, day))
                    told, tolds = house.papers(kind, day), other.papers(kind, day)
                    self.assertEqual([paper[:2] for paper in told], [paper[:2] for paper in tolds])


if __name__ == "__main__":
    unittest.main()
