import itertools
import unittest

from drawback.days import meets, reach
from drawback.errors import BadDay, BadStretch, BadTerm
from refusals import FAR, NO_DAYS, NO_TERMS, outcome

DAYS = [1, 2, 3, 50, 399, 400, 401, 402, 598, 599, 600, 998, 999]
TERMS = [0, 1, 2, 30, 399, 400]
STRETCHES = [pair for pair in itertools.product(DAYS, DAYS) if pair[0] <= pair[1]]
NO_STRETCHES = (
    [(2, 1), (999, 1), (999, 998), (400, 399)]
    + [(bad, 5) for bad in NO_DAYS]
    + [(5, bad) for bad in NO_DAYS]
    + [(0, 0), (1000, 1000), (0, 1000), (1000, 0), (-1, -2), (FAR, -FAR), (-FAR, FAR)]
)


def reached(day, term):
    """All days that are reached, one by one, as the document tells them."""
    return [back for back in range(1, 1000) if day - term <= back <= day]


class Reach(unittest.TestCase):
    def test_ordinary(self):
        self.assertEqual(reach(100, 30), (70, 100))
        self.assertEqual(reach(20, 0), (20, 20))

    def test_the_first_one_is_1_at_least(self):
        self.assertEqual(reach(1, 0), (1, 1))
        self.assertEqual(reach(1, 400), (1, 1))
        self.assertEqual(reach(30, 29), (1, 30))
        self.assertEqual(reach(30, 30), (1, 30))
        self.assertEqual(reach(400, 400), (1, 400))
        self.assertEqual(reach(401, 400), (1, 401))
        self.assertEqual(reach(402, 400), (2, 402))
        self.assertEqual(reach(999, 400), (599, 999))

    def test_all_days_and_terms_at_the_edges(self):
        for day, term in itertools.product(DAYS, TERMS):
            with self.subTest(day=day, term=term):
                told = reach(day, term)
                days = reached(day, term)
                self.assertIs(type(told), tuple)
                self.assertEqual(told, (days[0], days[-1]))
                self.assertEqual(reach(day, term), told)

    def test_bad_day(self):
        for day, term in itertools.product(NO_DAYS, TERMS):
            with self.subTest(day=day, term=term):
                self.assertIs(outcome(reach, day, term), BadDay)

    def test_bad_term(self):
        for day, term in itertools.product(DAYS, NO_TERMS):
            with self.subTest(day=day, term=term):
                self.assertIs(outcome(reach, day, term), BadTerm)

    def test_bad_day_goes_ahead_of_bad_term(self):
        for day, term in itertools.product(NO_DAYS, NO_TERMS):
            with self.subTest(day=day, term=term):
                self.assertIs(outcome(reach, day, term), BadDay)


class Meets(unittest.TestCase):
    def test_ordinary(self):
        self.assertIs(meets((10, 20), 25, 5), True)
        self.assertIs(meets((10, 20), 26, 5), False)
        self.assertIs(meets((10, 20), 10, 5), True)
        self.assertIs(meets((10, 20), 9, 5), False)
        self.assertIs(meets((10, 20), 15, 0), True)
        self.assertIs(meets((10, 10), 100, 400), True)

    def test_all_small_ones(self):
        ends = range(1, 8)
        for first, last in itertools.product(ends, ends):
            if first > last:
                continue
            for day, term in itertools.product(range(1, 13), range(0, 9)):
                wanted = any(first <= back <= last for back in reached(day, term))
                self.assertIs(meets((first, last), day, term), wanted, (first, last, day, term))

    def test_all_at_the_edges(self):
        for day, term in itertools.product(DAYS, TERMS):
            days = set(reached(day, term))
            for first, last in STRETCHES:
                wanted = not days.isdisjoint(range(first, last + 1))
                self.assertIs(meets((first, last), day, term), wanted, (first, last, day, term))

    def test_bad_stretch_goes_first(self):
        days = [1, 500, 999] + NO_DAYS
        terms = [0, 400] + NO_TERMS
        for stretch, day, term in itertools.product(NO_STRETCHES, days, terms):
            self.assertIs(outcome(meets, stretch, day, term), BadStretch, (stretch, day, term))

    def test_then_bad_day(self):
        for stretch, day, term in itertools.product(STRETCHES[::7], NO_DAYS, [0, 400] + NO_TERMS):
            self.assertIs(outcome(meets, stretch, day, term), BadDay, (stretch, day, term))

    def test_then_bad_term(self):
        for stretch, day, term in itertools.product(STRETCHES[::7], DAYS, NO_TERMS):
            self.assertIs(outcome(meets, stretch, day, term), BadTerm, (stretch, day, term))

    def test_the_same_again_also_behind_a_refusal(self):
        self.assertIs(meets((3, 4), 5, 1), True)
        self.assertIs(outcome(meets, (4, 3), 5, 1), BadStretch)
        self.assertIs(outcome(meets, (3, 4), 5, 401), BadTerm)
        self.assertIs(meets((3, 4), 5, 1), True)


if __name__ == "__main__":
    unittest.main()
