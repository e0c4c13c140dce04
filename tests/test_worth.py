import random
import unittest

from books import flow_best, refund_of, tiny, untouched, wide
from drawback.best import best, greatest
from drawback.worth import line_of, lot_less, lot_more, out_less, out_more
from refusals import outcome


def by_paths(lots, outs, term):
    return refund_of(lots, flow_best(lots, outs, term))


def some_day(chance, lots, outs):
    """A day of the others, beside them, or any."""
    days = [row[0] for row in lots + outs] or [500]
    near = chance.choice(days) + chance.choice([-2, -1, 0, 0, 0, 1, 2])
    return min(999, max(1, chance.choice([near, near, near, chance.randint(1, 999)])))


def some_duty(chance, lots):
    """A duty of the lots, beside them, or any."""
    near = chance.choice([lot[2] for lot in lots] or [1]) + chance.choice([-1, 0, 0, 1])
    return min(1000000, max(1, chance.choice([near, near, near, chance.randint(1, 1000000)])))


def less(rows, at):
    told = list(rows)
    told[at] = (rows[at][0], rows[at][1] - 1) + tuple(rows[at][2:])
    return [row for row in told if row[1]]


def raised(ahead, behind):
    """The places at which counts differ, with their differences."""
    return [(at, two - one) for at, (one, two) in enumerate(zip(ahead, behind)) if one != two]


class Cases(unittest.TestCase):
    def cases(self, seed, few, full):
        """Up to 8 lots and outs, and 30 of them."""
        chance = random.Random(seed)
        for step in range(few):
            yield (chance,) + (tiny(chance, 8, chance.choice([1, 2, 5])) if step % 2 else wide(chance, 8))
        for step in range(full):
            yield (chance,) + wide(chance, 30)


class More(Cases):
    def test_ordinary(self):
        lots = [(10, 5, 3), (12, 4, 9), (30, 2, 1)]
        outs = [(12, 6), (15, 2), (30, 1)]
        self.assertEqual(lot_more(lots, outs, 3, 12, 10), 7)
        self.assertEqual(lot_more(lots, outs, 3, 12, 3), 0)
        self.assertEqual(lot_more(lots, outs, 3, 13, 2), 0)
        self.assertEqual(lot_more(lots, outs, 3, 16, 8), 0)
        self.assertEqual(lot_more(lots, outs, 3, 27, 8), 7)
        self.assertEqual(lot_more([], [(5, 1)], 0, 5, 1000000), 1000000)
        self.assertEqual(lot_more([], [], 0, 5, 1000000), 0)
        self.assertEqual(out_more(lots, outs, 3, 13), 3)
        self.assertEqual(out_more(lots, outs, 3, 15), 3)
        self.assertEqual(out_more(lots, outs, 3, 16), 0)
        self.assertEqual(out_more(lots, outs, 3, 33), 1)
        self.assertEqual(out_more(lots, outs, 3, 34), 0)
        self.assertEqual(out_more(lots, outs, 3, 9), 0)
        self.assertEqual(out_more([], [], 0, 1), 0)

    def test_lots_by_paths(self):
        for chance, lots, outs, term in self.cases(1, 200, 25):
            for step in range(2):
                day, duty = some_day(chance, lots, outs), some_duty(chance, lots)
                told = untouched(self, lot_more, lots, outs, term, day, duty)
                wanted = by_paths(lots + [(day, 1, duty)], outs, term) - by_paths(lots, outs, term)
                self.assertEqual(told, wanted, (lots, outs, term, day, duty))
                self.assertTrue(0 <= told <= duty)

    def test_outs_by_paths(self):
        for chance, lots, outs, term in self.cases(2, 200, 25):
            for step in range(2):
                day = some_day(chance, lots, outs)
                told = untouched(self, out_more, lots, outs, term, day)
                wanted = by_paths(lots, outs + [(day, 1)], term) - by_paths(lots, outs, term)
                self.assertEqual(told, wanted, (lots, outs, term, day))
                self.assertGreaterEqual(told, 0)

    def test_of_two_days_in_turn(self):
        for chance, lots, outs, term in self.cases(3, 30, 3):
            one, other = some_day(chance, lots, outs), some_day(chance, lots, outs)
            duty = some_duty(chance, lots)
            told = [out_more(lots, outs, term, day) for day in (one, other)]
            tolds = [lot_more(lots, outs, term, day, duty) for day in (one, other)]
            for step in range(2):
                self.assertEqual([out_more(lots, outs, term, day) for day in (one, other)], told)
                self.assertEqual([lot_more(lots, outs, term, day, duty) for day in (one, other)], tolds)

    def test_an_out_more_raises_one_count_at_most(self):
        for chance, lots, outs, term in self.cases(4, 150, 15):
            day = some_day(chance, lots, outs)
            ways = [(outs + [(day, 1)], day)]
            if outs:
                at = chance.randrange(len(outs))
                more = (outs[at][0], outs[at][1] + 1)
                ways.append((outs[:at] + [more] + outs[at + 1:], more[0]))
            for gone, told_day in ways:
                if len(gone) > 30 or max(count for day, count in gone) > 10000000000:
                    continue
                steps = raised(best(lots, outs, term), best(lots, gone, term))
                self.assertLessEqual(len(steps), 1)
                self.assertTrue(all(step == 1 for at, step in steps))
                worth = sum(lots[at][2] for at, step in steps)
                self.assertEqual(out_more(lots, outs, term, told_day), worth)

    def test_a_lot_more_puts_out_one_unit_at_most(self):
        for chance, lots, outs, term in self.cases(5, 200, 15):
            if len(lots) == 30:
                lots = lots[:29]
            day, duty = some_day(chance, lots, outs), some_duty(chance, lots)
            ahead, behind = best(lots, outs, term), best(lots + [(day, 1, duty)], outs, term)
            steps = raised(ahead, behind)
            self.assertLessEqual(len(steps), behind[-1])
            self.assertTrue(all(step == -1 and lots[at][2] <= duty for at, step in steps))
            worth = behind[-1] * duty - sum(lots[at][2] for at, step in steps)
            self.assertEqual(lot_more(lots, outs, term, day, duty), worth)


class Less(Cases):
    def test_ordinary(self):
        lots = [(10, 5, 3), (12, 4, 9), (30, 2, 1), (30, 1, 4)]
        outs = [(12, 6), (15, 2), (30, 1)]
        self.assertEqual([lot_less(lots, outs, 3, at) for at in range(4)], [0, 6, 0, 3])
        self.assertEqual([out_less(lots, outs, 3, at) for at in range(3)], [3, 3, 4])
        self.assertEqual(lot_less([(5, 1, 7)], [(5, 1)], 0, 0), 7)
        self.assertEqual(out_less([(5, 1, 7)], [(5, 1)], 0, 0), 7)
        self.assertEqual(out_less([], [(5, 1)], 0, 0), 0)
        self.assertEqual(lot_less([(5, 1, 1)], [], 0, 0), 0)

    def test_by_paths(self):
        for chance, lots, outs, term in self.cases(6, 150, 20):
            whole = by_paths(lots, outs, term)
            for at in chance.sample(range(len(lots)), min(3, len(lots))):
                told = untouched(self, lot_less, lots, outs, term, at)
                self.assertEqual(told, whole - by_paths(less(lots, at), outs, term), (lots, outs, term, at))
                self.assertTrue(0 <= told <= lots[at][2])
            for at in chance.sample(range(len(outs)), min(3, len(outs))):
                told = untouched(self, out_less, lots, outs, term, at)
                self.assertEqual(told, whole - by_paths(lots, less(outs, at), term), (lots, outs, term, at))
                self.assertGreaterEqual(told, 0)

    def test_a_unit_put_in_and_taken_out_again(self):
        for chance, lots, outs, term in self.cases(7, 60, 6):
            lots, outs = lots[:29], outs[:29]
            day, duty = some_day(chance, lots, outs), some_duty(chance, lots)
            more = lots + [(day, 1, duty)]
            self.assertEqual(lot_less(more, outs, term, len(lots)), lot_more(lots, outs, term, day, duty))
            more = outs + [(day, 1)]
            self.assertEqual(out_less(lots, more, term, len(outs)), out_more(lots, outs, term, day))


class Line(Cases):
    def test_ordinary(self):
        lots = [(10, 5, 3), (12, 4, 9), (30, 2, 1)]
        self.assertEqual(line_of(lots, [], 3, 13, 0), [0])
        self.assertEqual(line_of(lots, [], 3, 13, 6), [0, 9, 18, 27, 36, 39, 42])
        self.assertEqual(line_of(lots, [(12, 6)], 3, 13, 5), [42, 45, 48, 51, 51, 51])
        self.assertEqual(line_of([], [], 3, 13, 40), [0] * 41)

    def check_line(self, lots, outs, term, day, most):
        told = untouched(self, line_of, lots, outs, term, day, most)
        self.assertIs(type(told), list)
        wanted = [by_paths(lots, outs + [(day, units)] * (units > 0), term) for units in range(most + 1)]
        self.assertEqual(told, wanted, (lots, outs, term, day, most))
        steps = [two - one for one, two in zip(told, told[1:])]
        self.assertEqual(steps, sorted(steps, reverse=True))
        self.assertTrue(all(step >= 0 for step in steps))
        if most:
            self.assertEqual(steps[0], out_more(lots, outs, term, day))

    def test_short_lines_by_paths(self):
        chance = random.Random(8)
        for step in range(150):
            lots, outs, term = tiny(chance, 7, chance.choice([1, 3, 8])) if step % 2 else wide(chance, 7)
            self.check_line(lots, outs, term, some_day(chance, lots, outs), chance.randint(0, 12))

    def test_long_lines_by_paths(self):
        chance = random.Random(9)
        for step in range(6):
            lots, outs, term = wide(chance, 30)
            outs = (outs * 30 or [(7, 1)] * 30)[:30]
            self.check_line(lots, outs, term, some_day(chance, lots, outs), 40)

    def test_a_told_line_changed_changes_nothing(self):
        lots, outs = [(3, 4, 5)], [(5, 1)]
        told = line_of(lots, outs, 2, 4, 3)
        told[0] = 99
        told.append(7)
        self.assertEqual(line_of(lots, outs, 2, 4, 3), [5, 10, 15, 20])
        self.assertEqual((lots, outs), ([(3, 4, 5)], [(5, 1)]))


class Thirty(unittest.TestCase):
    def test_a_unit_more_besides_thirty_rows(self):
        lots, outs = [(5, 1, 2)] * 30, [(5, 1)] * 30
        self.assertEqual(lot_more(lots, outs, 0, 5, 3), 1)
        self.assertEqual(out_more(lots[:29] + [(5, 2, 2)], outs, 0, 5), 2)
        self.assertEqual(lot_less(lots, outs, 0, 29), 2)
        self.assertEqual(out_less(lots, outs, 0, 29), 2)
        self.assertEqual(line_of(lots, outs, 0, 5, 1), [60, 60])
        self.assertEqual(greatest(lots, outs, 0), 60)

    def test_a_row_more_is_refused_all_the_same(self):
        lots, outs = [(5, 1, 2)] * 31, [(5, 1)] * 31
        for call, given in [
            (lot_more, (5, 3)), (out_more, (5,)), (lot_less, (0,)), (out_less, (0,)), (line_of, (5, 1)),
        ]:
            self.assertEqual(outcome(call, lots, [], 0, *given).__name__, "BadRows")
            self.assertEqual(outcome(call, [], outs, 0, *given).__name__, "BadRows")

    def test_the_greatest_numbers(self):
        lots, outs = [(999, 10000000000, 1000000)] * 30, [(999, 10000000000)] * 30
        self.assertEqual(out_less(lots, outs, 400, 29), 1000000)
        self.assertEqual(lot_less(lots, outs, 400, 0), 1000000)
        self.assertEqual(out_more(lots, outs, 400, 999), 0)
        self.assertEqual(line_of(lots, outs[1:], 0, 999, 40)[40], 29 * 10 ** 16 + 40 * 10 ** 6)


if __name__ == "__main__":
    unittest.main()
