import copy
import random
import unittest

from books import untouched
from drawback.errors import BadCount, BadDay, BadRows, BadTerm, CustomsError
from drawback.sureties import surety, vouched
from refusals import FAR, NO_DAYS, NO_TERMS, outcome

NO_COINS = [-FAR, -1, 0]
PAID = [(10, 5), (12, 7), (30, 100)]


def some_paid(chance, most):
    span = chance.choice([0, 3, 20, 400, 998])
    first = chance.choice([1, 999 - span, chance.randint(1, 999 - span)])
    coins = chance.choice([1, 2, 9, 10 ** 6, FAR])
    return [
        (chance.randint(first, first + span), chance.randint(1, coins))
        for step in range(chance.choice([most, chance.randint(0, most)]))
    ]


def some_wait(chance):
    return chance.choice([0, 1, 2, 19, 20, 399, 400, chance.randint(0, 400)])


def sum_of(paid, wait, day):
    total = 0
    for back in range(day - wait, day + 1):
        total += sum(coins for paid_day, coins in paid if paid_day == back)
    return total


def by_all_days(paid, wait):
    by_day = [0] * 1000
    for day, coins in paid:
        by_day[day] += coins
    greatest = (0, 0)
    for day in range(1, 1000):
        coins = sum(by_day[max(1, day - wait):day + 1])
        if coins > greatest[0]:
            greatest = (coins, day)
    return greatest


class Vouched(unittest.TestCase):
    def test_ordinary(self):
        self.assertEqual(vouched(PAID, 2, 12), 12)
        self.assertEqual(vouched(PAID, 1, 12), 7)
        self.assertEqual(vouched(PAID, 2, 14), 7)
        self.assertEqual(vouched(PAID, 2, 15), 0)
        self.assertEqual(vouched(PAID, 400, 30), 112)
        self.assertEqual(vouched(PAID, 400, 9), 0)
        self.assertEqual(vouched(PAID, 0, 10), 5)
        self.assertEqual(vouched([], 400, 999), 0)
        self.assertEqual(vouched([(1, FAR)] * 60, 400, 401), 60 * FAR)
        self.assertEqual(vouched([(1, FAR)] * 60, 400, 402), 0)
        self.assertEqual(vouched([(1, FAR)] * 60, 399, 401), 0)

    def test_sums(self):
        chance = random.Random(1)
        for step in range(300):
            paid = some_paid(chance, chance.choice([20, 60]))
            wait = some_wait(chance)
            near = chance.choice([day for day, coins in paid] or [5])
            day = min(999, chance.choice([near, near + wait, near + wait + 1, chance.randint(1, 999)]))
            self.assertEqual(untouched(self, vouched, paid, wait, day), sum_of(paid, wait, day))


class Surety(unittest.TestCase):
    def test_ordinary(self):
        self.assertEqual(surety(PAID, 2), (100, 30))
        self.assertEqual(surety(PAID, 18), (107, 30))
        self.assertEqual(surety(PAID, 20), (112, 30))
        self.assertEqual(surety([(10, 5), (12, 5)], 1), (5, 10))
        self.assertEqual(surety([(12, 5), (10, 5)], 1), (5, 10))
        self.assertEqual(surety([(12, 5), (10, 5), (10, 1)], 0), (6, 10))
        self.assertEqual(surety([(999, 1)], 400), (1, 999))
        self.assertEqual(surety([], 0), (0, 0))
        self.assertEqual(surety([], 400), (0, 0))
        self.assertIs(type(surety([], 0)), tuple)

    def test_by_all_days(self):
        chance = random.Random(2)
        for step in range(300):
            paid, wait = some_paid(chance, chance.choice([3, 20, 60])), some_wait(chance)
            told = untouched(self, surety, paid, wait)
            self.assertEqual(told, by_all_days(paid, wait), (paid, wait))
            self.assertIs(type(told), tuple)
            if paid:
                self.assertEqual(vouched(paid, wait, told[1]), told[0])


class Refused(unittest.TestCase):
    def check_refusal(self, refusal, paid, wait, day=None):
        self.assertEqual(refusal.__mro__[1:3], (CustomsError, ValueError))
        calls = [(vouched, (wait, 5 if day is None else day))]
        if day is None:
            calls.append((surety, (wait,)))
        for call, given in calls:
            kept = copy.deepcopy(paid)
            self.assertIs(outcome(call, paid, *given), refusal, (call.__name__, paid, given))
            self.assertEqual(paid, kept)

    def test_too_many(self):
        for many in (59, 60):
            self.assertEqual(surety([(5, 1)] * many, 0), (many, 5))
            self.assertEqual(vouched([(5, 1)] * many, 0, 5), many)
        for many in (61, 62):
            self.check_refusal(BadRows, [(5, 1)] * many, 0)
            self.check_refusal(BadRows, [(0, 0)] * many, -1)
            self.check_refusal(BadRows, [(5, 1)] * many, 401, 0)

    def test_bad_rows(self):
        for day in NO_DAYS:
            self.check_refusal(BadDay, PAID + [(day, 0), (5, 0)], 401)
            self.check_refusal(BadCount, [(5, 0), (day, 1)] + PAID, 401)
        for coins in NO_COINS:
            self.check_refusal(BadCount, PAID + [(5, coins), (0, 1)], 401, 0)
            self.check_refusal(BadDay, [(0, 1), (5, coins)], 401, 0)

    def test_bad_waits_and_days(self):
        for wait in NO_TERMS:
            self.check_refusal(BadTerm, PAID, wait)
            self.check_refusal(BadTerm, [], wait, 0)
        for day in NO_DAYS:
            self.check_refusal(BadDay, PAID, 0, day)
            self.check_refusal(BadDay, [], 400, day)

    def test_several_at_once(self):
        chance = random.Random(3)
        for step in range(600):
            paid = [(chance.randint(1, 999), chance.randint(1, 9)) for row in range(chance.choice([59, 60, 61, 62]))]
            due = [BadRows] * (len(paid) > 60)
            spoilt = sorted(chance.sample(range(len(paid)), chance.choice([0, 0, 1, 3])))
            for at in spoilt:
                day, coins = chance.choice(NO_DAYS + [5]), chance.choice(NO_COINS + [5])
                paid[at] = (day, coins)
                due += [BadDay] * (day != 5) + [BadCount] * (coins != 5)
            wait = chance.choice([0, 400] + NO_TERMS)
            due += [BadTerm] * (wait in NO_TERMS)
            if due:
                self.check_refusal(due[0], paid, wait)
                self.check_refusal(due[0], paid, wait, chance.choice(NO_DAYS + [1]))
            else:
                self.assertEqual(surety(paid, wait), by_all_days(paid, wait))


if __name__ == "__main__":
    unittest.main()
