import random
import unittest

from books import flow_best, flows, some_counts, tiny, untouched, wide
from drawback.best import best
from drawback.deal import counts_of, dealt, is_dealing
from drawback.errors import NoPlace, NotDealable
from refusals import FAR, outcome

LOTS = [(12, 4, 9), (10, 5, 3), (10, 2, 8)]
OUTS = [(15, 3), (12, 6), (12, 1)]


def dealt_by_unit(lots, outs, term, taken):
    """[6] unit by unit: each unit of each out goes to the eldest unit that it reaches."""
    ages = sorted((day, at) for at, (day, count, duty) in enumerate(lots))
    units = [at for day, at in ages for step in range(taken[at])]
    given = []
    for day, out in sorted((day, at) for at, (day, count) in enumerate(outs)):
        for step in range(outs[out][1]):
            for place, lot in enumerate(units):
                if day - term <= lots[lot][0] <= day:
                    given.append((lot, out))
                    del units[place]
                    break
    told = []
    for pair in given:
        if pair not in [row[:2] for row in told]:
            told.append(pair + (given.count(pair),))
    return told


def is_dealing_by_rows(lots, outs, term, rows):
    """[4] told word by word."""
    for lot, out, count in rows:
        if lot not in range(len(lots)) or out not in range(len(outs)) or count < 1:
            return False
        if not outs[out][0] - term <= lots[lot][0] <= outs[out][0]:
            return False
        if [row[:2] for row in rows].count((lot, out)) > 1:
            return False
        if sum(row[2] for row in rows if row[0] == lot) > lots[lot][1]:
            return False
        if sum(row[2] for row in rows if row[1] == out) > outs[out][1]:
            return False
    return True


def spoilt(chance, lots, outs, rows):
    """A dealing with something changed in it, or any triples at all."""
    told = list(rows)
    way = chance.randrange(9)
    if way == 0 or not told:
        return [
            (chance.randint(-1, len(lots)), chance.randint(-1, len(outs)), chance.randint(0, 3))
            for step in range(chance.randint(0, 4))
        ]
    at = chance.randrange(len(told))
    lot, out, count = told[at]
    if way == 1:
        told.insert(chance.randint(0, len(told)), told[at])
    elif way == 2:
        del told[at]
    elif way == 3:
        told[at] = (chance.randrange(len(lots)), out, count)
    elif way == 4:
        told[at] = (lot, chance.randrange(len(outs)), count)
    elif way == 5:
        told[at] = (chance.choice([-FAR, -1, len(lots), FAR]), out, count)
    elif way == 6:
        told[at] = (lot, chance.choice([-FAR, -1, len(outs), FAR]), count)
    elif way == 7:
        told[at] = (lot, out, chance.choice([count + 1, count + FAR, 0, -1, -FAR]))
    else:
        chance.shuffle(told)
    return told


class Dealt(unittest.TestCase):
    def check_dealing(self, lots, outs, term, taken, told):
        self.assertIs(type(told), list)
        self.assertTrue(all(type(row) is tuple for row in told))
        self.assertTrue(is_dealing_by_rows(lots, outs, term, told), (lots, outs, term, told))
        self.assertIs(is_dealing(lots, outs, term, told), True)
        self.assertEqual(counts_of(lots, told), taken)
        ranks = [(outs[out][0], out, lots[lot][0], lot) for lot, out, count in told]
        self.assertEqual(ranks, sorted(ranks))

    def test_ordinary(self):
        told = dealt(LOTS, OUTS, 3, [3, 4, 2])
        self.assertEqual(told, [(1, 1, 4), (2, 1, 2), (0, 2, 1), (0, 0, 2)])
        # What the eldest out doesn't reach waits for a younger one.
        told = dealt([(5, 3, 1), (7, 3, 1)], [(8, 4), (6, 2)], 2, [2, 3])
        self.assertEqual(told, [(0, 1, 2), (1, 0, 3)])
        told = dealt([(5, 3, 1), (7, 3, 1)], [(8, 4), (7, 2)], 2, [2, 3])
        self.assertEqual(told, [(0, 1, 2), (1, 0, 3)])
        told = dealt([(7, 3, 9), (5, 3, 1)], [(8, 3), (7, 2)], 2, [3, 2])
        self.assertEqual(told, [(1, 1, 2), (0, 0, 3)])

    def test_nothing(self):
        self.assertEqual(dealt([], [], 0, []), [])
        self.assertEqual(dealt([], OUTS, 400, []), [])
        self.assertEqual(dealt(LOTS, [], 400, [0, 0, 0]), [])
        self.assertEqual(dealt(LOTS, OUTS, 3, [0, 0, 0]), [])

    def test_by_units(self):
        chance = random.Random(1)
        refused = 0
        for step in range(800):
            lots, outs, term = tiny(chance)
            taken = some_counts(chance, lots, flow_best(lots, outs, term))
            if flows(lots, outs, term, taken):
                told = untouched(self, dealt, lots, outs, term, taken)
                self.assertEqual(told, dealt_by_unit(lots, outs, term, taken), (lots, outs, term, taken))
                self.check_dealing(lots, outs, term, taken, told)
            else:
                refused += 1
                self.assertIs(outcome(dealt, lots, outs, term, taken), NotDealable)
        self.assertGreater(refused, 100)

    def test_many(self):
        chance = random.Random(2)
        for step in range(150):
            lots, outs, term = wide(chance)
            taken = some_counts(chance, lots, best(lots, outs, term))
            if flows(lots, outs, term, taken):
                told = untouched(self, dealt, lots, outs, term, taken)
                self.check_dealing(lots, outs, term, taken, told)
            else:
                kept = (list(lots), list(outs), list(taken))
                self.assertIs(outcome(dealt, lots, outs, term, taken), NotDealable)
                self.assertEqual((lots, outs, taken), kept)

    def test_a_told_list_changed_changes_nothing(self):
        wanted = dealt(LOTS, OUTS, 3, [3, 4, 2])
        told = dealt(LOTS, OUTS, 3, [3, 4, 2])
        told.clear()
        self.assertEqual(dealt(LOTS, OUTS, 3, [3, 4, 2]), wanted)


class IsDealing(unittest.TestCase):
    def test_ordinary(self):
        rows = [(0, 0, 2), (1, 1, 4), (2, 1, 2), (0, 2, 1)]
        self.assertIs(is_dealing(LOTS, OUTS, 3, rows), True)
        self.assertIs(is_dealing(LOTS, OUTS, 3, []), True)
        self.assertIs(is_dealing([], [], 0, []), True)
        self.assertIs(is_dealing([], [], 0, [(0, 0, 1)]), False)
        # The lot has 4 units, the out takes 6.
        self.assertIs(is_dealing(LOTS, OUTS, 3, [(0, 1, 4), (1, 1, 2)]), True)
        self.assertIs(is_dealing(LOTS, OUTS, 3, [(0, 1, 5)]), False)
        self.assertIs(is_dealing(LOTS, OUTS, 3, [(0, 1, 4), (1, 1, 3)]), False)
        # Enough for either lot and out, but written twice.
        self.assertIs(is_dealing(LOTS, OUTS, 3, [(0, 1, 1), (0, 1, 1)]), False)
        # Day 15 reaches day 12 alone.
        self.assertIs(is_dealing(LOTS, OUTS, 3, [(0, 0, 1)]), True)
        self.assertIs(is_dealing(LOTS, OUTS, 3, [(1, 0, 1)]), False)
        self.assertIs(is_dealing(LOTS, OUTS, 4, [(1, 0, 1)]), False)
        self.assertIs(is_dealing(LOTS, OUTS, 5, [(1, 0, 1)]), True)
        self.assertIs(is_dealing([(13, 1, 1)], [(12, 1)], 400, [(0, 0, 1)]), False)

    def test_places_and_counts_that_are_none(self):
        for lot in [-FAR, -3, -1, 3, FAR]:
            self.assertIs(is_dealing(LOTS, OUTS, 5, [(lot, 1, 1)]), False)
        for out in [-FAR, -3, -1, 3, FAR]:
            self.assertIs(is_dealing(LOTS, OUTS, 5, [(1, out, 1)]), False)
        for count in [-FAR, -1, 0, 6, FAR]:
            self.assertIs(is_dealing(LOTS, OUTS, 5, [(1, 1, count)]), False)
        # A count below nought doesn't make good what is too many.
        self.assertIs(is_dealing(LOTS, OUTS, 5, [(1, 1, 6), (1, 2, -1)]), False)

    def test_dealings_and_spoilt_ones(self):
        chance = random.Random(3)
        told = []
        for step in range(1500):
            lots, outs, term = tiny(chance) if step % 3 else wide(chance, 9)
            rows = dealt(lots, outs, term, best(lots, outs, term))
            self.assertIs(is_dealing(lots, outs, term, rows), True)
            rows = spoilt(chance, lots, outs, rows)
            told.append(untouched(self, is_dealing, lots, outs, term, rows))
            self.assertIs(told[-1], is_dealing_by_rows(lots, outs, term, rows), (lots, outs, term, rows))
        self.assertGreater(told.count(True), 200)
        self.assertGreater(told.count(False), 200)


class CountsOf(unittest.TestCase):
    def test_ordinary(self):
        self.assertEqual(counts_of([], []), [])
        self.assertEqual(counts_of(LOTS, []), [0, 0, 0])
        self.assertEqual(counts_of(LOTS, [(0, 0, 2), (2, 1, 1), (0, 2, 1)]), [3, 0, 1])

    def test_any_outs_and_counts(self):
        chance = random.Random(4)
        for step in range(300):
            lots = wide(chance)[0]
            rows = [
                (chance.randint(-1 if chance.random() < 0.05 else 0, len(lots) - (chance.random() < 0.95)),
                 chance.choice([-FAR, -1, 0, 1, 7, 30, FAR]),
                 chance.choice([-FAR, -1, 0, 1, 5, 10000000001, FAR]))
                for turn in range(chance.randint(0, 12) if lots else 0)
            ]
            if all(0 <= row[0] < len(lots) for row in rows):
                told = untouched(self, counts_of, lots, rows)
                self.assertIs(type(told), list)
                self.assertEqual(told, [sum(row[2] for row in rows if row[0] == at) for at in range(len(lots))])
                told.append(3)
                self.assertEqual(counts_of(lots, rows), told[:-1])
            else:
                kept = list(rows)
                self.assertIs(outcome(counts_of, lots, rows), NoPlace)
                self.assertEqual(rows, kept)

    def test_no_place(self):
        for lot in [-FAR, -3, -1, 3, 4, FAR]:
            self.assertIs(outcome(counts_of, LOTS, [(0, 0, 1), (lot, 0, 1)]), NoPlace)
        self.assertIs(outcome(counts_of, [], [(0, 0, 1)]), NoPlace)


if __name__ == "__main__":
    unittest.main()
