import itertools
import random
import unittest

from drawback.errors import BadCount, BadDay, BadDuty, BadRows, BadTaken
from drawback.rows import checked_lots, checked_outs, dearest, eldest, refund
from refusals import FAR, NO_COUNTS, NO_DAYS, NO_DUTIES, outcome

DAYS = [1, 2, 500, 998, 999]
COUNTS = [1, 2, 300, 9999999999, 10000000000]
DUTIES = [1, 2, 7, 999999, 1000000]
# The numbers of a row in their order, each with its good ones, its bad ones, its refusal.
FIELDS = [(DAYS, NO_DAYS, BadDay), (COUNTS, NO_COUNTS, BadCount), (DUTIES, NO_DUTIES, BadDuty)]
# Each check with how many numbers its rows have.
CHECKS = [(checked_lots, 3), (checked_outs, 2)]


def some_row(chance, width, spoilt=()):
    """A row of good numbers, but for those at the places that are spoilt."""
    return tuple(
        chance.choice(bad if at in spoilt else good)
        for at, (good, bad, refusal) in enumerate(FIELDS[:width])
    )


def some_rows(chance, width, many):
    return [some_row(chance, width) for step in range(many)]


def crowded_lots(chance, many):
    """Lots of few days and few duties, so that many are of one."""
    return [
        (chance.choice([5, 6, 7]), chance.choice(COUNTS), chance.choice([1, 2, 1000000]))
        for step in range(many)
    ]


class Checked(unittest.TestCase):
    def test_every_number_of_a_good_row(self):
        for row in itertools.product(DAYS, COUNTS, DUTIES):
            self.assertEqual(checked_lots([row]), [row])
            self.assertEqual(checked_outs([row[:2]]), [row[:2]])

    def test_a_new_list_with_the_same_rows(self):
        chance = random.Random(1)
        for (check, width), many in itertools.product(CHECKS, [0, 1, 2, 29, 30]):
            with self.subTest(check=check, many=many):
                rows = some_rows(chance, width, many)
                kept = list(rows)
                told = check(rows)
                self.assertIs(type(told), list)
                self.assertIsNot(told, rows)
                self.assertEqual(told, kept)
                self.assertTrue(all(type(row) is tuple for row in told))
                told.append(kept)
                told[0] = None
                self.assertEqual(rows, kept)
                self.assertEqual(check(rows), kept)

    def test_a_later_change_of_the_list_changes_nothing_told(self):
        for check, width in CHECKS:
            rows = [(3, 4, 5)[:width]]
            told = check(rows)
            rows[0] = (9, 9, 9)[:width]
            rows.append((8, 8, 8)[:width])
            self.assertEqual(told, [(3, 4, 5)[:width]])

    def test_more_than_30_rows(self):
        chance = random.Random(2)
        for (check, width), many in itertools.product(CHECKS, [31, 32, 60, 500]):
            with self.subTest(check=check, many=many):
                rows = some_rows(chance, width, many)
                self.assertIs(outcome(check, rows), BadRows)
                self.assertEqual(len(rows), many)

    def test_bad_rows_goes_ahead_of_what_is_in_them(self):
        for check, width in CHECKS:
            rows = [(0, 0, 0)[:width]] * 31
            self.assertIs(outcome(check, rows), BadRows)
            self.assertIs(outcome(check, rows[:30]), BadDay)

    def test_every_bad_number(self):
        for check, width in CHECKS:
            for at, (good, bad, refusal) in enumerate(FIELDS[:width]):
                for number in bad:
                    with self.subTest(check=check, at=at, number=number):
                        row = [5, 5, 5][:width]
                        row[at] = number
                        self.assertIs(outcome(check, [tuple(row)]), refusal)

    def test_several_bad_numbers_of_one_row(self):
        chance = random.Random(3)
        for check, width in CHECKS:
            for spoilt in itertools.product([False, True], repeat=width):
                places = [at for at in range(width) if spoilt[at]]
                for step in range(20 if places else 0):
                    row = some_row(chance, width, places)
                    self.assertIs(outcome(check, [row]), FIELDS[places[0]][2], row)

    def test_the_first_bad_row_goes_first(self):
        chance = random.Random(4)
        for (check, width), many in itertools.product(CHECKS, [2, 3, 29, 30]):
            for step in range(60):
                rows = some_rows(chance, width, many)
                spoilt = sorted(
                    (chance.randrange(many), chance.randrange(width))
                    for time in range(chance.choice([1, 2, 3]))
                )
                for at, place in spoilt:
                    changed = list(rows[at])
                    changed[place] = chance.choice(FIELDS[place][1])
                    rows[at] = tuple(changed)
                kept = list(rows)
                self.assertIs(outcome(check, rows), FIELDS[spoilt[0][1]][2], rows)
                self.assertEqual(rows, kept)

    def test_a_late_day_goes_behind_an_early_duty(self):
        self.assertIs(outcome(checked_lots, [(1, 1, 0), (0, 1, 1)]), BadDuty)
        self.assertIs(outcome(checked_lots, [(1, 0, 1), (0, 1, 1)]), BadCount)
        self.assertIs(outcome(checked_outs, [(1, 0), (0, 1)]), BadCount)


class Orders(unittest.TestCase):
    def check_order(self, order, rows, ahead):
        kept = list(rows)
        told = order(rows)
        self.assertIs(type(told), list)
        self.assertEqual(sorted(told), list(range(len(rows))))
        for one, next_one in zip(told, told[1:]):
            self.assertTrue(ahead(rows, one, next_one), (rows, one, next_one))
        self.assertEqual(rows, kept)
        again = list(told)
        told.append(99)
        self.assertEqual(order(rows), again)

    def elder(self, rows, one, other):
        if rows[one][0] != rows[other][0]:
            return rows[one][0] < rows[other][0]
        return one < other

    def dearer(self, rows, one, other):
        if rows[one][2] != rows[other][2]:
            return rows[one][2] > rows[other][2]
        return self.elder(rows, one, other)

    def test_eldest_ordinary(self):
        self.assertEqual(eldest([]), [])
        self.assertEqual(eldest([(9, 1, 1)]), [0])
        self.assertEqual(eldest([(7, 1), (3, 9), (7, 2), (1, 5), (3, 1)]), [3, 1, 4, 0, 2])
        self.assertEqual(eldest([(7, 9, 1), (7, 1, 9), (6, 5, 5)]), [2, 0, 1])
        self.assertEqual(eldest([(100, 1), (20, 1), (3, 1)]), [2, 1, 0])

    def test_dearest_ordinary(self):
        self.assertEqual(dearest([]), [])
        self.assertEqual(dearest([(9, 1, 1)]), [0])
        self.assertEqual(dearest([(5, 1, 2), (4, 1, 9), (3, 1, 9), (1, 1, 2)]), [2, 1, 3, 0])
        self.assertEqual(dearest([(5, 9, 2), (5, 1, 2), (5, 5, 10)]), [2, 0, 1])

    def test_neighbours(self):
        chance = random.Random(5)
        for many in range(31):
            for step in range(10):
                for lots in (crowded_lots(chance, many), some_rows(chance, 3, many)):
                    self.check_order(eldest, lots, self.elder)
                    self.check_order(eldest, [lot[:2] for lot in lots], self.elder)
                    self.check_order(dearest, lots, self.dearer)

    def test_all_of_one_day_and_duty(self):
        lots = [(8, 31 - at, 4) for at in range(30)]
        self.assertEqual(eldest(lots), list(range(30)))
        self.assertEqual(dearest(lots), list(range(30)))

    def test_two_lists_in_turn(self):
        one, other = [(3, 1, 1), (2, 1, 1)], [(2, 1, 1), (3, 1, 2)]
        for step in range(3):
            self.assertEqual((eldest(one), eldest(other)), ([1, 0], [0, 1]))
            self.assertEqual((dearest(one), dearest(other)), ([1, 0], [1, 0]))


class Refund(unittest.TestCase):
    def test_ordinary(self):
        self.assertEqual(refund([], []), 0)
        self.assertEqual(refund([(1, 10, 7)], [0]), 0)
        self.assertEqual(refund([(1, 10, 7)], [10]), 70)
        self.assertEqual(refund([(9, 10, 7), (1, 5, 100)], [3, 5]), 521)
        self.assertEqual(refund([(1, 10000000000, 1000000)] * 30, [10000000000] * 30), 3 * 10 ** 17)

    def test_within_the_bounds(self):
        chance = random.Random(6)
        for many in range(31):
            lots = some_rows(chance, 3, many)
            taken = [chance.choice([0, 1, lot[1] - 1, lot[1]]) for lot in lots]
            kept = (list(lots), list(taken))
            wanted = 0
            for at in range(many):
                wanted += taken[at] * lots[at][2]
            self.assertEqual(refund(lots, taken), wanted)
            self.assertEqual(refund(lots, taken), wanted)
            self.assertEqual((lots, taken), kept)

    def test_not_a_number_for_each_lot(self):
        chance = random.Random(7)
        for many in [0, 1, 2, 29, 30]:
            lots = some_rows(chance, 3, many)
            for length in [0, many - 1, many + 1, many + 30]:
                if length < 0 or length == many:
                    continue
                taken = [0] * length
                self.assertIs(outcome(refund, lots, taken), BadTaken, (many, length))
                self.assertEqual(taken, [0] * length)

    def test_one_out_of_its_bounds(self):
        chance = random.Random(8)
        for many in [1, 2, 29, 30]:
            lots = some_rows(chance, 3, many)
            kept = list(lots)
            for at in range(many):
                above = lots[at][1] + 1
                for number in [-FAR, -10000000000, -1, above, above + 10 ** 12, FAR]:
                    taken = [lot[1] for lot in lots]
                    taken[at] = number
                    wanted = list(taken)
                    self.assertIs(outcome(refund, lots, taken), BadTaken, (lots, taken))
                    self.assertEqual((lots, taken), (kept, wanted))

    def test_bounds_are_each_lots_own(self):
        lots = [(1, 5, 1), (1, 9, 1)]
        self.assertEqual(refund(lots, [5, 9]), 14)
        self.assertIs(outcome(refund, lots, [9, 5]), BadTaken)
        # Too much of one lot isn't made good by too little of another.
        self.assertIs(outcome(refund, lots, [6, 8]), BadTaken)
        self.assertIs(outcome(refund, lots, [-1, 9]), BadTaken)


if __name__ == "__main__":
    unittest.main()
