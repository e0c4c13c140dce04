"""Deeds taken back and done again, twins, and lists that a house told."""

import random
import unittest

from drawback.errors import NoKind, NothingLeft
from drawback.house import House
from model import Maker, answers_of, books_of, some_days, some_terms
from pairs import Pairs, frozen
from refusals import outcome

DAYS = (5, 60, 400, 999)


class Steps(Pairs):
    def test_any(self):
        chance = random.Random(1)
        for step in range(80):
            house, model = self.pair(*some_terms(chance))
            maker = Maker(chance, 0.1)
            for place in range(chance.choice([0, 12])):
                self.step(house, model, maker.deed(model))
            for place in range(20):
                self.some_step(chance, maker, house, model)
            self.check_answers(house, model, some_days(chance, model, 2))
            while not isinstance(self.back_or_again(house, model, "undo"), type):
                pass
            self.assertEqual((house.deeds(), house.kinds(), house.claims()), ([], 0, []))
            while not isinstance(self.back_or_again(house, model, "redo"), type):
                pass
            self.check_answers(house, model, some_days(chance, model, 2))

    def test_all_is_as_it_was_at_that_time(self):
        chance = random.Random(2)
        for step in range(40):
            house, model = self.pair(*some_terms(chance))
            maker = Maker(chance, 0)
            kept = [(books_of(house), answers_of(house, DAYS))]
            for place in range(20):
                if not isinstance(outcome(house.do, maker.deed(house)), type):
                    kept.append((books_of(house), answers_of(house, DAYS)))
            deeds = house.deeds()
            self.assertEqual(len(kept), len(deeds) + 1)
            for name, order in [("undo", range(len(deeds) - 1, -1, -1)), ("redo", range(1, len(deeds) + 1))]:
                for at in order:
                    told = getattr(house, name)()
                    self.assertEqual(told, deeds[at if name == "undo" else at - 1])
                    self.assertEqual((books_of(house), answers_of(house, DAYS)), kept[at])
                self.assertIs(outcome(getattr(house, name)), NothingLeft)

    def test_the_deed_is_told(self):
        house = House(5, 5, 5)
        house.raw()
        house.made([(1, 2)])
        self.assertEqual(house.undo(), ("made", ((1, 2),)))
        self.assertEqual(house.undo(), ("raw",))
        self.assertIs(outcome(house.undo), NothingLeft)
        self.assertEqual(house.redo(), ("raw",))
        self.assertEqual(house.redo(), ("made", ((1, 2),)))
        self.assertIs(outcome(house.redo), NothingLeft)
        self.check_class(NothingLeft)

    def test_another_deed_ends_doing_again_but_a_refused_one_not(self):
        house = House(5, 5, 5)
        house.raw(), house.raw()
        house.undo()
        self.assertIs(outcome(house.come, 2, 5, 5, 5), NoKind)
        self.assertIs(outcome(house.do, ("lay", 3, 5)), NoKind)
        house.due(1, 5), house.account(1, 5), house.deeds(), house.twin()
        self.assertEqual(house.redo(), ("raw",))
        house.undo()
        house.undo()
        self.assertEqual(house.raw(), 1)
        self.assertIs(outcome(house.redo), NothingLeft)
        self.assertEqual((house.kinds(), house.deeds()), (1, [("raw",)]))


class Twins(Pairs):
    def test_each_goes_its_own_way(self):
        chance = random.Random(3)
        for step in range(30):
            house, model = self.pair(*some_terms(chance))
            maker = Maker(chance)
            for place in range(chance.choice([0, 8, 20])):
                self.some_step(chance, maker, house, model)
            other, copied = house.twin(), model.twin()
            self.assertIs(type(other), House)
            sides = [(house, model), (other, copied), (other.twin(), copied.twin())]
            for side in sides:
                self.check_books(*side)
            for place in range(20):
                self.some_step(chance, maker, *chance.choice(sides))
                for side in sides:
                    self.check_books(*side)
            for side in sides:
                self.check_answers(*side, DAYS)
                while not isinstance(self.back_or_again(*side, "redo"), type):
                    pass
                while not isinstance(self.back_or_again(*side, "undo"), type):
                    pass

    def test_the_same_to_do_again(self):
        house = House(5, 6, 7)
        house.raw(), house.raw(), house.raw()
        house.undo(), house.undo()
        other = house.twin()
        self.assertEqual((other.terms(), other.kinds()), ((5, 6, 7), 1))
        self.assertEqual(other.redo(), ("raw",))
        self.assertEqual((other.kinds(), house.kinds()), (2, 1))
        self.assertEqual(house.made([(1, 4)]), 2)
        self.assertEqual((house.is_raw(2), other.is_raw(2)), (False, True))
        self.assertEqual((outcome(house.redo), other.redo()), (NothingLeft, ("raw",)))

    def test_two_houses_and_the_same_deeds(self):
        chance = random.Random(4)
        for step in range(20):
            terms = some_terms(chance)
            sides = [self.pair(*terms), self.pair(*terms)]
            maker = Maker(chance)
            for place in range(20):
                deed = maker.deed(sides[0][1])
                for side in sides:
                    if chance.random() < 0.8:
                        self.step(*side, deed)
                    if chance.random() < 0.2:
                        self.back_or_again(*side, chance.choice(["undo", "redo"]))
                for side in sides:
                    self.check_books(*side)


class Lists(Pairs):
    def tolds(self, house, days):
        """Every list that a house tells."""
        told = [house.deeds(), house.claims()]
        told += [house.holds(kind) for kind in range(1, house.kinds() + 1)]
        for kind in range(1, house.kinds() + 1):
            if house.is_raw(kind):
                told += [house.lots(kind), house.outs(kind)]
                for day in days:
                    told += [house.left(kind, day), house.due(kind, day), house.papers(kind, day)]
        told += [row for name in ("lot", "out", "claim") for row in books_of(house)[name]]
        return told

    def test_changed_they_change_nothing(self):
        chance = random.Random(5)
        for step in range(30):
            house, model = self.pair(*some_terms(chance))
            maker = Maker(chance)
            for place in range(20):
                self.step(house, model, maker.deed(model))
            days = some_days(chance, model, 2)
            kept = frozen(self.tolds(house, days))
            for told in self.tolds(house, days):
                self.spoil(told)
            self.assertEqual(self.tolds(house, days), kept)
            self.check_books(house, model)
            self.back_or_again(house, model, "undo")
            self.back_or_again(house, model, "redo")

    def test_held_they_stay_as_they_were_told(self):
        chance = random.Random(6)
        for step in range(20):
            house, model = self.pair(*some_terms(chance))
            maker = Maker(chance)
            held = []
            for place in range(20):
                self.step(house, model, maker.deed(model))
                told = self.tolds(house, [60])
                held.append((told, frozen(told)))
                if chance.random() < 0.2:
                    self.back_or_again(house, model, "undo")
            for told, kept in held:
                self.assertEqual(told, kept)


if __name__ == "__main__":
    unittest.main()
