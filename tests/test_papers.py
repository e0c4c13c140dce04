import random
import unittest

from books import Flow, are_stretches, flow_best, sum_of_paper, tiny, units_above, untouched, wide
from drawback.best import best
from drawback.papers import good_paper, papers
from refusals import FAR

LOTS = [(10, 5, 3), (12, 4, 9), (30, 2, 1)]
OUTS = [(12, 6), (15, 2), (30, 1)]


def some_stretches(chance, lots):
    """Stretches that rise, often beginning or ending on lots' days."""
    near = [day for lot in lots for day in (lot[0] - 1, lot[0], lot[0] + 1) if 1 <= day <= 999]
    days = sorted(set(chance.choices(near + [1, 999, chance.randint(1, 999)], k=chance.randint(0, 8))))
    told = []
    while days:
        first = days.pop(0)
        last = days.pop(0) if days and chance.random() < 0.7 else first
        told.append((first, last))
    return told


def spoilt(chance, stretches):
    """Stretches turned about, one twice, one out of the days, or one ended ahead."""
    told = list(stretches)
    way = chance.randrange(7)
    at = chance.randint(0, len(told))
    if way == 0:
        told.reverse()
    elif way == 1 and told:
        told.insert(at, chance.choice(told))
    elif way == 2:
        told.insert(at, chance.choice([(0, 5), (-FAR, 3), (0, 0), (-4, -2)]))
    elif way == 3:
        told.insert(at, chance.choice([(990, 1000), (5, FAR), (1000, 1000), (FAR, FAR)]))
    elif way == 4:
        told.insert(at, chance.choice([(5, 4), (999, 1), (7, 0), (1000, 999)]))
    elif way == 5 and told:
        first, last = told[-1]
        told.append((last, min(999, last + 1)))
    return told


class Papers(unittest.TestCase):
    def check_papers(self, lots, outs, term):
        told = untouched(self, papers, lots, outs, term)
        counts = best(lots, outs, term)
        self.assertIs(type(told), list)
        self.assertEqual([paper[0] for paper in told], sorted({lot[2] for lot in lots}, reverse=True))
        for paper in told:
            duty, units, stretches = paper
            self.assertIs(type(paper), tuple)
            self.assertIs(type(stretches), list)
            self.assertTrue(all(type(stretch) is tuple for stretch in stretches))
            self.assertTrue(are_stretches(stretches), paper)
            self.assertEqual(units, units_above(lots, counts, duty))
            self.assertEqual(units, sum_of_paper(lots, outs, term, duty, stretches), (lots, outs, term, paper))
            self.assertIs(good_paper(lots, outs, term, paper), True)

    def test_ordinary(self):
        told = papers(LOTS, OUTS, 3)
        self.assertEqual([paper[:2] for paper in told], [(9, 4), (3, 8), (1, 9)])
        self.check_papers(LOTS, OUTS, 3)

    def test_nothing(self):
        self.assertEqual(papers([], [], 0), [])
        self.assertEqual(papers([], OUTS, 400), [])
        self.check_papers(LOTS, [], 400)
        self.assertEqual([paper[1] for paper in papers(LOTS, [], 400)], [0, 0, 0])

    def test_one_duty_and_many(self):
        self.check_papers([(day, 3, 7) for day in range(1, 31)], OUTS, 2)
        self.check_papers([(day, 3, day) for day in range(1, 31)], OUTS, 2)
        self.check_papers([(999, 10000000000, 1000000)] * 30, [(999, 10000000000)] * 29, 400)

    def test_few(self):
        chance = random.Random(1)
        for step in range(400):
            self.check_papers(*tiny(chance))

    def test_many(self):
        chance = random.Random(2)
        for step in range(120):
            self.check_papers(*wide(chance))

    def test_what_is_told_changed_changes_nothing(self):
        lots, outs = [(1, 9, 5), (5, 9, 5), (1, 1, 2)], [(1, 2), (5, 3)]
        kept = papers(lots, outs, 0)
        told = papers(lots, outs, 0)
        for paper in told:
            paper[2].append((7, 7))
        told.clear()
        self.assertEqual(papers(lots, outs, 0), kept)

    def test_papers_share_no_list(self):
        chance = random.Random(3)
        for step in range(40):
            told = papers(*wide(chance))
            kept = [list(paper[2]) for paper in told]
            for at, paper in enumerate(told):
                paper[2].append((999, 999))
                kept[at].append((999, 999))
                self.assertEqual([paper[2] for paper in told], kept)


class GoodPaper(unittest.TestCase):
    def test_ordinary(self):
        self.assertIs(good_paper(LOTS, OUTS, 3, (3, 8, [(10, 12)])), True)
        self.assertIs(good_paper(LOTS, OUTS, 3, (3, 9, [(10, 12)])), False)
        self.assertIs(good_paper(LOTS, OUTS, 3, (3, 7, [(10, 12)])), False)
        self.assertIs(good_paper(LOTS, OUTS, 3, (3, 9, [])), True)
        self.assertIs(good_paper(LOTS, OUTS, 3, (1, 11, [])), True)
        # What goes out against two stretches counts for each by itself.
        self.assertIs(good_paper(LOTS, OUTS, 3, (3, 14, [(10, 11), (12, 12)])), True)
        self.assertIs(good_paper(LOTS, OUTS, 3, (3, 8, [(10, 11), (12, 12)])), False)
        self.assertIs(good_paper([], [], 0, (1, 0, [])), True)
        self.assertIs(good_paper([], [], 0, (1, 1, [])), False)

    def test_any_duty(self):
        for duty in [-FAR, -1, 0, 1]:
            self.assertIs(good_paper(LOTS, OUTS, 3, (duty, 11, [])), True)
        for duty in [10, 1000000, 1000001, FAR]:
            self.assertIs(good_paper(LOTS, OUTS, 3, (duty, 0, [])), True)
            self.assertIs(good_paper(LOTS, OUTS, 3, (duty, 8, [(10, 12)])), True)
        for units in [-FAR, -1, 10, 12, FAR]:
            self.assertIs(good_paper(LOTS, OUTS, 3, (1, units, [])), False)

    def test_pairs_that_are_no_stretches(self):
        # Each would come to 9 by its sum, were it a list of stretches.
        for stretches in [
            [(5, 4)], [(4, 4), (4, 4)], [(4, 4), (3, 3)], [(0, 4)], [(-FAR, 3)], [(0, 0)],
            [(50, 1000)], [(1000, 1000)], [(50, FAR)], [(4, 5), (5, 6)], [(1, 6), (2, 3)],
            [(50, 60), (4, 5)],
        ]:
            self.assertEqual(sum_of_paper(LOTS, OUTS, 3, 3, stretches), 9)
            self.assertIs(good_paper(LOTS, OUTS, 3, (3, 9, stretches)), False, stretches)
        for stretches in [[(4, 5), (6, 6)], [(1, 1), (999, 999)], [(4, 4), (50, 999)]]:
            self.assertIs(good_paper(LOTS, OUTS, 3, (3, 9, stretches)), True, stretches)

    def test_any_paper(self):
        chance = random.Random(4)
        told = []
        for step in range(1500):
            lots, outs, term = tiny(chance) if step % 2 else wide(chance)
            duty = chance.choice([lot[2] for lot in lots] + [1, chance.randint(1, 1000000)])
            stretches = some_stretches(chance, lots)
            if chance.random() < 0.4:
                stretches = spoilt(chance, stretches)
            good = are_stretches(stretches)
            units = sum_of_paper(lots, outs, term, duty, stretches) if good else chance.randint(0, 9)
            units += chance.choice([0, 0, 0, 1, -1])
            wanted = good and units == sum_of_paper(lots, outs, term, duty, stretches)
            told.append(untouched(self, good_paper, lots, outs, term, (duty, units, stretches)))
            self.assertIs(told[-1], wanted, (lots, outs, term, duty, units, stretches))
        self.assertGreater(told.count(True), 300)
        self.assertGreater(told.count(False), 300)

    def test_no_more_units_can_be_dealt_out_than_a_good_paper_tells(self):
        chance = random.Random(5)
        for step in range(400):
            lots, outs, term = tiny(chance) if step % 2 else wide(chance)
            duty = chance.choice([lot[2] for lot in lots] + [1, 3])
            stretches = some_stretches(chance, lots)
            units = sum_of_paper(lots, outs, term, duty, stretches)
            self.assertIs(good_paper(lots, outs, term, (duty, units, stretches)), True)
            self.assertLessEqual(units_above(lots, best(lots, outs, term), duty), units)
            flow = Flow(lots, outs, term)
            most = sum(flow.push(at, lot[1]) for at, lot in enumerate(lots) if lot[2] >= duty)
            self.assertEqual(most, units_above(lots, flow_best(lots, outs, term), duty))
            self.assertLessEqual(most, units)


if __name__ == "__main__":
    unittest.main()
