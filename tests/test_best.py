import itertools
import random
import unittest

from books import Flow, fits_by_unit, flow_best, flows, refund_of, tiny, units_above, untouched, wide
from drawback.best import best, greatest
from drawback.room import dealable, room


def by_duty(lots, counts):
    return {duty: units_above(lots, counts, duty) for day, count, duty in lots}


def parted(chance, rows):
    """Rows of the same units, some parted into several of the same day and duty."""
    told = []
    for row in rows:
        left = row[1]
        while left > 1 and len(told) < 20 and chance.random() < 0.5:
            part = chance.randint(1, left - 1)
            told.append((row[0], part) + row[2:])
            left -= part
        told.append((row[0], left) + row[2:])
    return told


def shuffled(chance, rows):
    return chance.sample(rows, len(rows))


class Best(unittest.TestCase):
    def test_ordinary(self):
        lots = [(10, 5, 3), (12, 4, 9), (30, 2, 1)]
        outs = [(12, 6), (15, 2), (30, 1)]
        self.assertEqual(best(lots, outs, 3), [4, 4, 1])
        self.assertEqual(greatest(lots, outs, 3), 49)
        self.assertEqual(best(lots, outs, 2), [2, 4, 1])
        self.assertEqual(best(lots, outs, 0), [0, 4, 1])
        self.assertEqual(best(lots, outs, 400), [5, 4, 0])

    def test_of_like_duty_the_elder_first(self):
        self.assertEqual(best([(9, 5, 2), (8, 5, 2)], [(9, 6)], 1), [1, 5])
        self.assertEqual(best([(9, 5, 2), (9, 5, 2)], [(9, 6)], 1), [5, 1])
        self.assertEqual(best([(9, 5, 3), (8, 5, 2)], [(9, 6)], 1), [5, 1])

    def test_nothing(self):
        self.assertEqual(best([], [], 0), [])
        self.assertEqual(best([], [(5, 5)], 400), [])
        self.assertEqual(best([(5, 5, 5), (6, 5, 5)], [], 400), [0, 0])
        self.assertEqual(best([(5, 5, 5)], [(4, 5)], 400), [0])
        self.assertEqual(greatest([], [], 0), 0)
        self.assertEqual(greatest([], [(5, 5)], 0), 0)
        self.assertEqual(greatest([(5, 5, 5)], [], 0), 0)

    def test_the_greatest_numbers(self):
        lots = [(999, 10000000000, 1000000)] * 30
        self.assertEqual(best(lots, [(999, 10000000000)] * 30, 0), [10000000000] * 30)
        self.assertEqual(greatest(lots, [(999, 10000000000)] * 30, 0), 3 * 10 ** 17)
        self.assertEqual(best(lots, [(999, 1)] * 30, 400), [30] + [0] * 29)

    def test_by_paths(self):
        chance = random.Random(1)
        for step in range(250):
            lots, outs, term = wide(chance)
            told = untouched(self, best, lots, outs, term)
            self.assertIs(type(told), list)
            self.assertEqual(told, flow_best(lots, outs, term), (lots, outs, term))
            self.assertEqual(untouched(self, greatest, lots, outs, term), refund_of(lots, told))

    def test_against_all_counts(self):
        chance = random.Random(2)
        for step in range(120):
            lots, outs, term = tiny(chance, 4, 3)
            told = best(lots, outs, term)
            ranges = [range(lot[1] + 1) for lot in lots]
            fit = [taken for taken in itertools.product(*ranges) if fits_by_unit(lots, outs, term, taken)]
            self.assertIn(tuple(told), fit)
            self.assertEqual(greatest(lots, outs, term), max(refund_of(lots, taken) for taken in fit))
            for duty in {lot[2] for lot in lots}:
                most = max(units_above(lots, taken, duty) for taken in fit)
                self.assertEqual(units_above(lots, told, duty), most)

    def test_of_each_duty_and_above_as_many_as_can_be(self):
        chance = random.Random(3)
        for step in range(60):
            lots, outs, term = wide(chance)
            told = best(lots, outs, term)
            for duty in {lot[2] for lot in lots}:
                flow = Flow(lots, outs, term)
                most = sum(flow.push(at, lot[1]) for at, lot in enumerate(lots) if lot[2] >= duty)
                self.assertEqual(units_above(lots, told, duty), most)

    def test_no_room_is_left(self):
        chance = random.Random(4)
        for step in range(30):
            lots, outs, term = wide(chance)
            told = best(lots, outs, term)
            self.assertIs(dealable(lots, outs, term, told), True)
            self.assertEqual([room(lots, outs, term, told, at) for at in range(len(lots))], [0] * len(lots))

    def test_a_told_list_changed_changes_nothing(self):
        lots, outs = [(3, 4, 5), (4, 4, 4)], [(5, 6)]
        told = best(lots, outs, 2)
        told[0] = 99
        told.append(1)
        self.assertEqual(best(lots, outs, 2), [4, 2])
        self.assertEqual((lots, outs), ([(3, 4, 5), (4, 4, 4)], [(5, 6)]))

    def test_two_houses_in_turn(self):
        chance = random.Random(5)
        one, other = wide(chance), wide(chance)
        wanted = (flow_best(*one), flow_best(*other))
        for step in range(3):
            self.assertEqual((best(*one), best(*other)), wanted)
            self.assertEqual(greatest(*one), refund_of(one[0], wanted[0]))
            self.assertEqual(greatest(*other), refund_of(other[0], wanted[1]))


class Changed(unittest.TestCase):
    def cases(self, seed, many):
        chance = random.Random(seed)
        for step in range(many):
            yield chance, wide(chance, chance.choice([8, 30]))

    def check_alike(self, lots, outs, term, others, goings):
        """The same refund and units of each duty; of other outs alone the same best counts."""
        counts, refund = best(lots, outs, term), greatest(lots, outs, term)
        self.assertEqual(greatest(others, goings, term), refund)
        self.assertEqual(by_duty(others, best(others, goings, term)), by_duty(lots, counts))
        self.assertEqual(best(lots, goings, term), counts)

    def test_in_another_order(self):
        for chance, (lots, outs, term) in self.cases(6, 60):
            self.check_alike(lots, outs, term, shuffled(chance, lots), shuffled(chance, outs))

    def test_parted(self):
        chance = random.Random(7)
        for step in range(60):
            lots, outs, term = wide(chance, 8)
            self.check_alike(lots, outs, term, parted(chance, lots), parted(chance, outs))

    def test_days_moved(self):
        for chance, (lots, outs, term) in self.cases(8, 80):
            days = [row[0] for row in lots + outs] or [1]
            for step in [1 - min(days), 999 - max(days), chance.randint(1 - min(days), 999 - max(days))]:
                moved = [(day + step, count, duty) for day, count, duty in lots]
                gone = [(day + step, count) for day, count in outs]
                self.assertEqual(best(moved, gone, term), best(lots, outs, term))

    def test_a_longer_term(self):
        for chance, (lots, outs, term) in self.cases(9, 60):
            terms = sorted([0, term, 400] + [chance.randint(0, 400) for step in range(3)])
            refunds = [greatest(lots, outs, longer) for longer in terms]
            self.assertEqual(refunds, sorted(refunds))

    def test_duties_times_as_great(self):
        for chance, (lots, outs, term) in self.cases(10, 60):
            times = 1000000 // max([lot[2] for lot in lots], default=1)
            for factor in [times, chance.randint(1, times)]:
                dearer = [(day, count, duty * factor) for day, count, duty in lots]
                self.assertEqual(best(dearer, outs, term), best(lots, outs, term))
                self.assertEqual(greatest(dearer, outs, term), factor * greatest(lots, outs, term))

    def test_one_unit_more_of_any_lot_cannot_be_dealt_out(self):
        for chance, (lots, outs, term) in self.cases(11, 20):
            counts = best(lots, outs, term)
            for at, lot in enumerate(lots):
                if counts[at] < lot[1]:
                    more = counts[:at] + [counts[at] + 1] + counts[at + 1:]
                    self.assertIs(dealable(lots, outs, term, more), False)
                    self.assertIs(flows(lots, outs, term, more), False)


if __name__ == "__main__":
    unittest.main()
