"""Thirty rounds of a lot, an out and a claim, to the bounds of counts and books."""

import random
import unittest

from drawback.errors import Full
from drawback.minutes import read_minutes, written
from model import answers_of, books_of
from pairs import Pairs


class Rounds(Pairs):
    def rounds(self, chance, terms, million):
        """Kind 4 holds ten thousand units of kind 1; one out of it is of a million units."""
        house, model = self.built(
            terms, ("raw",), ("raw",), ("made", ((1, 100),)), ("made", ((2, 1), (3, 100))),
        )
        self.assertEqual(house.holds(4), [(1, 10000), (2, 1)])
        laid = 0
        for step in range(1, 31):
            day = 10 * step + chance.randint(-9, 9)
            kind = 1 + step % 3 // 2
            count, duty = chance.choice([1000000, 999999, step]), chance.randint(1, 1000000)
            self.step(house, model, ("come", kind, day, count, duty))
            going = ("go", chance.randint(1, 4), day + chance.randint(0, 9), chance.randint(1, 300))
            self.step(house, model, ("go", 4, day, 1000000) if step == million else going)
            told = self.step(house, model, ("lay", kind, day + chance.randint(0, 30)))
            laid += not isinstance(told, type)
            if step % 7 == 0 and house.claims():
                self.step(house, model, ("call_back", chance.choice(house.claims())))
        self.assertGreater(laid, 5)
        return house, model

    def check_all(self, house, model, days):
        read = read_minutes(written(house))
        for asked in (house, house.twin(), read):
            self.assertEqual(books_of(asked), books_of(model))
            self.assertEqual(answers_of(asked, days), answers_of(model, days))
            for wait in (0, 17, 200):
                self.assertEqual(asked.surety(wait), model.surety(wait))
        for kind in (1, 2):
            self.check_papers(house, model, kind, days[0])

    def test_thirty_rounds(self):
        chance = random.Random(1)
        for terms in [(30, 400, 80), (400, 400, 100), (5, 60, 33)]:
            house, model = self.rounds(chance, terms, chance.choice([1, 15, 29]))
            self.assertIs(self.step(house, model, ("come", 1, 5, 5, 5)), Full)
            self.assertIs(self.step(house, model, ("go", 1, 5, 5)), Full)
            days = [150, 305, 330]
            self.check_all(house, model, days)
            for step in range(chance.randint(5, 40)):
                self.back_or_again(house, model, "undo")
            self.check_all(house, model, days)

    def test_ten_thousand_million_units_go_out(self):
        house, model = self.built(
            (0, 0, 100), ("raw",), ("made", ((1, 100),)), ("made", ((2, 100),)), ("go", 3, 7, 1000000),
        )
        self.assertEqual(house.left(1, 7), ([], [(1, 7, 10000000000)]))
        for step in range(30):
            self.step(house, model, ("come", 1, 7, 1000000, 1000000))
        self.assertEqual(house.refund(1, 7), 30 * 10 ** 12)
        self.assertEqual([row[:2] for row in house.papers(1, 7)], [(1000000, 30000000)])
        self.assertEqual(self.step(house, model, ("lay", 1, 7)), 1)
        self.assertEqual(house.purse(), 30 * 10 ** 12)
        self.assertEqual(house.left(1, 7), ([], [(1, 7, 9970000000)]))


if __name__ == "__main__":
    unittest.main()
