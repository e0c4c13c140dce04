import itertools
import random
import unittest

from books import Flow, fits_by_unit, flow_best, flows, some_counts, tiny, untouched, wide
from drawback.errors import NoPlace, NotDealable
from drawback.room import against, dealable, room
from refusals import FAR, outcome

LOTS = [(10, 5, 3), (12, 4, 9), (30, 2, 1)]
OUTS = [(12, 6), (15, 2), (30, 1)]


def against_by_days(outs, term, stretch):
    total = 0
    for day, count in outs:
        reached = [back for back in range(1, 1000) if day - term <= back <= day]
        if any(stretch[0] <= back <= stretch[1] for back in reached):
            total += count
    return total


class Against(unittest.TestCase):
    def test_ordinary(self):
        self.assertEqual(against(OUTS, 3, (12, 12)), 8)
        self.assertEqual(against(OUTS, 2, (12, 12)), 6)
        self.assertEqual(against(OUTS, 3, (13, 26)), 2)
        self.assertEqual(against(OUTS, 3, (13, 27)), 3)
        self.assertEqual(against(OUTS, 0, (1, 999)), 9)
        self.assertEqual(against(OUTS, 400, (31, 999)), 0)
        self.assertEqual(against([], 400, (1, 999)), 0)

    def test_outs_of_the_first_and_of_the_last_day(self):
        outs = [(1, 5), (999, 7)]
        self.assertEqual(against(outs, 0, (1, 1)), 5)
        self.assertEqual(against(outs, 400, (599, 599)), 7)
        self.assertEqual(against(outs, 400, (598, 598)), 0)
        self.assertEqual(against(outs, 400, (999, 999)), 7)
        self.assertEqual(against(outs, 0, (2, 998)), 0)

    def test_as_each_out_reaches(self):
        chance = random.Random(1)
        for step in range(60):
            lots, outs, term = wide(chance)
            ends = [1, 999]
            for day, count in outs[:6]:
                ends += [day - 1, day, day + 1, day - term - 1, day - term, day - term + 1]
            ends = [day for day in ends if 1 <= day <= 999]
            for first, last in [sorted(chance.choices(ends, k=2)) for turn in range(5)]:
                for stretch in [(first, last), (first, first), (1, 999)]:
                    told = untouched(self, against, outs, term, stretch)
                    self.assertEqual(told, against_by_days(outs, term, stretch))


class Dealable(unittest.TestCase):
    def test_ordinary(self):
        self.assertIs(dealable(LOTS, OUTS, 3, [4, 4, 1]), True)
        self.assertIs(dealable(LOTS, OUTS, 3, [5, 3, 1]), True)
        # Against days 10 to 12 go 8 units, though 9 go out in all.
        self.assertIs(dealable(LOTS, OUTS, 3, [5, 4, 0]), False)
        self.assertIs(dealable(LOTS, OUTS, 3, [0, 0, 2]), False)
        self.assertIs(dealable([(5, 9, 1), (6, 1, 1)], [(6, 1), (5, 9)], 1, [9, 1]), True)
        self.assertIs(dealable([(5, 9, 1), (6, 1, 1)], [(7, 1), (5, 9)], 1, [9, 1]), True)
        self.assertIs(dealable([(5, 9, 1), (6, 2, 1)], [(7, 1), (5, 9)], 1, [8, 2]), False)

    def test_nothing(self):
        self.assertIs(dealable([], [], 0, []), True)
        self.assertIs(dealable([], OUTS, 0, []), True)
        self.assertIs(dealable(LOTS, [], 400, [0, 0, 0]), True)
        self.assertIs(dealable(LOTS, [], 400, [0, 0, 1]), False)

    def test_at_the_ends_of_the_reach(self):
        for term in [0, 1, 30, 400]:
            for day in [term + 1, 599, 999]:
                lots = [(day - term, 1, 1)]
                self.assertIs(dealable(lots, [(day, 1)], term, [1]), True)
                if term:
                    self.assertIs(dealable(lots, [(day, 1)], term - 1, [1]), False)
                    self.assertIs(dealable([(day, 1, 1)], [(day - 1, 1)], term, [1]), False)

    def test_by_units(self):
        chance = random.Random(2)
        told = []
        for step in range(1500):
            lots, outs, term = tiny(chance)
            taken = some_counts(chance, lots, flow_best(lots, outs, term))
            told.append(untouched(self, dealable, lots, outs, term, taken))
            self.assertIs(told[-1], fits_by_unit(lots, outs, term, taken), (lots, outs, term, taken))
        self.assertGreater(told.count(True), 300)
        self.assertGreater(told.count(False), 300)

    def test_by_paths(self):
        chance = random.Random(3)
        for step in range(400):
            lots, outs, term = wide(chance, 9)
            taken = some_counts(chance, lots, flow_best(lots, outs, term))
            told = untouched(self, dealable, lots, outs, term, taken)
            self.assertIs(told, flows(lots, outs, term, taken), (lots, outs, term, taken))

    def test_two_counts_in_turn(self):
        for step in range(3):
            self.assertIs(dealable(LOTS, OUTS, 3, [5, 4, 0]), False)
            self.assertIs(dealable(LOTS, OUTS, 3, [5, 3, 0]), True)


class Room(unittest.TestCase):
    def test_ordinary(self):
        self.assertEqual([room(LOTS, OUTS, 3, [0, 0, 0], at) for at in range(3)], [5, 4, 1])
        self.assertEqual([room(LOTS, OUTS, 3, [2, 4, 1], at) for at in range(3)], [2, 0, 0])
        self.assertEqual([room(LOTS, OUTS, 3, [5, 0, 1], at) for at in range(3)], [0, 3, 0])
        self.assertEqual(room([(5, 3, 1)], [(5, 10000000000)], 0, [1], 0), 2)
        self.assertEqual(room([(5, 10000000000, 1)], [(5, 3)], 0, [1], 0), 2)

    def test_the_number(self):
        chance = random.Random(4)
        for step in range(500):
            lots, outs, term = tiny(chance) if step % 2 else wide(chance, 9)
            taken = some_counts(chance, lots, flow_best(lots, outs, term))
            if not flows(lots, outs, term, taken):
                continue
            for at, lot in enumerate(lots):
                flow = Flow(lots, outs, term)
                for other, units in enumerate(taken):
                    flow.push(other, units)
                told = untouched(self, room, lots, outs, term, taken, at)
                self.assertEqual(told, flow.push(at, lot[1] - taken[at]), (lots, outs, term, taken, at))

    def test_not_dealable_goes_ahead_of_no_place(self):
        places = [-FAR, -1, 3, 4, FAR]
        for at in [0, 1, 2] + places:
            self.assertIs(outcome(room, LOTS, OUTS, 3, [5, 4, 0], at), NotDealable)
        for at in places:
            self.assertIs(outcome(room, LOTS, OUTS, 3, [5, 3, 0], at), NoPlace)

    def test_no_lots(self):
        for at, outs in itertools.product([-1, 0, 1], [[], OUTS]):
            self.assertIs(outcome(room, [], outs, 3, [], at), NoPlace)


if __name__ == "__main__":
    unittest.main()
