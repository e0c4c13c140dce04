"""Refusals of what is asked of lots, outs and a term, several of them due at once."""

import copy
import random
import unittest

from drawback.best import best, greatest
from drawback.deal import counts_of, dealt, is_dealing
from drawback.errors import (
    BadCount, BadDay, BadDuty, BadRows, BadStretch, BadTaken, BadTerm, CustomsError, NoPlace, NotDealable,
)
from drawback.papers import good_paper, papers
from drawback.room import against, dealable, room
from drawback.worth import line_of, lot_less, lot_more, out_less, out_more
from refusals import FAR, NO_COUNTS, NO_DAYS, NO_DUTIES, NO_TERMS, outcome

LOTS = [(10, 5, 3), (12, 4, 9), (30, 2, 1)]
OUTS = [(12, 6), (15, 2), (30, 1)]
NOT_DEALABLE = [[5, 4, 0], [5, 4, 2], [0, 0, 2]]

GOOD = {
    "lots": LOTS, "outs": OUTS, "term": 3, "stretch": (10, 12), "taken": [4, 4, 1], "counts": [4, 4, 1],
    "at": 1, "day": 12, "duty": 9, "most": 5, "rows": [(0, 0, 1)],
    "named": [(0, 7, 1), (2, -1, 5)], "paper": (3, 8, [(10, 12)]),
}
BAD = {
    "lots": [([(10, 5, 3)] * 31, BadRows), ([(0, 0, 0)] * 31, BadRows)]
    + [([(day, 0, 0)] + LOTS, BadDay) for day in NO_DAYS]
    + [([(10, count, FAR), (0, 1, 1)], BadCount) for count in NO_COUNTS]
    + [(LOTS + [(10, 1, duty), (0, 0, 0)], BadDuty) for duty in NO_DUTIES],
    "outs": [([(12, 6)] * 31, BadRows), ([(0, 0)] * 31, BadRows)]
    + [([(day, 0)] + OUTS, BadDay) for day in NO_DAYS]
    + [(OUTS + [(12, count), (0, 0)], BadCount) for count in NO_COUNTS],
    "term": [(term, BadTerm) for term in NO_TERMS],
    "stretch": [(pair, BadStretch) for pair in [(2, 1), (0, 5), (5, 1000), (1000, 0), (-FAR, FAR), (999, 998)]],
    "taken": [
        (counts, BadTaken)
        for counts in [[], [0, 0], [0, 0, 0, 0], [-1, 0, 0], [6, 0, 0], [0, 5, 0], [0, 0, FAR], [-FAR, 0, 0]]
    ],
    "at": [(at, NoPlace) for at in [-FAR, -3, -1, 3, 4, FAR]],
    "day": [(day, BadDay) for day in NO_DAYS],
    "duty": [(duty, BadDuty) for duty in NO_DUTIES],
    "most": [(most, BadCount) for most in [-FAR, -40, -1, 41, 42, FAR]],
    "rows": [],
    "named": [([(0, 0, 1), (lot, 0, 1)], NoPlace) for lot in [-FAR, -3, -1, 3, 4, FAR]],
    "paper": [],
}
# Where counts must be such as can be dealt out, a refusal of its own stands behind BadTaken.
BAD["counts"] = BAD["taken"] + [(counts, NotDealable) for counts in NOT_DEALABLE]

CALLS = [
    (against, ["outs", "term", "stretch"]),
    (dealable, ["lots", "outs", "term", "taken"]),
    (room, ["lots", "outs", "term", "counts", "at"]),
    (best, ["lots", "outs", "term"]),
    (greatest, ["lots", "outs", "term"]),
    (dealt, ["lots", "outs", "term", "counts"]),
    (is_dealing, ["lots", "outs", "term", "rows"]),
    (counts_of, ["lots", "named"]),
    (papers, ["lots", "outs", "term"]),
    (good_paper, ["lots", "outs", "term", "paper"]),
    (lot_more, ["lots", "outs", "term", "day", "duty"]),
    (out_more, ["lots", "outs", "term", "day"]),
    (lot_less, ["lots", "outs", "term", "at"]),
    (out_less, ["lots", "outs", "term", "at"]),
    (line_of, ["lots", "outs", "term", "day", "most"]),
]


class Refused(unittest.TestCase):
    def check_refusal(self, call, given, refusal):
        kept = copy.deepcopy(given)
        self.assertIs(outcome(call, *given), refusal, (call.__name__, given))
        self.assertEqual(given, kept)
        self.assertEqual(refusal.__mro__[1:3], (CustomsError, ValueError))

    def test_nothing_is_refused_of_good_ones(self):
        for call, names in CALLS:
            self.assertNotIsInstance(outcome(call, *[GOOD[name] for name in names]), type, call.__name__)

    def test_each_bad_thing_by_itself(self):
        for call, names in CALLS:
            for at, name in enumerate(names):
                for value, refusal in BAD[name]:
                    given = [GOOD[other] for other in names]
                    given[at] = value
                    self.check_refusal(call, given, refusal)

    def test_the_first_of_several(self):
        chance = random.Random(1)
        for call, names in CALLS:
            for step in range(400):
                given = [GOOD[name] for name in names]
                spoilt = sorted(chance.sample(range(len(names)), chance.randint(1, len(names))))
                due = []
                for at in spoilt:
                    if BAD[names[at]]:
                        given[at], refusal = chance.choice(BAD[names[at]])
                        due.append(refusal)
                if due:
                    self.check_refusal(call, given, due[0])

    def test_each_pair_of_neighbours(self):
        for call, names in CALLS:
            for at in range(len(names) - 1):
                for value, refusal in BAD[names[at]]:
                    for next_value, next_refusal in BAD[names[at + 1]]:
                        given = [GOOD[name] for name in names]
                        given[at:at + 2] = [value, next_value]
                        self.check_refusal(call, given, refusal)

    def test_the_same_again_behind_a_refusal(self):
        for call, names in CALLS:
            given = [GOOD[name] for name in names]
            told = call(*given)
            for at, name in enumerate(names):
                for value, refusal in BAD[name][:3]:
                    outcome(call, *(given[:at] + [value] + given[at + 1:]))
                    self.assertEqual(call(*given), told)

    def test_thirty_rows_are_not_too_many(self):
        lots, outs = [(5, 1, 1)] * 30, [(5, 1)] * 30
        self.assertEqual(against(outs, 0, (5, 5)), 30)
        self.assertIs(dealable(lots, outs, 0, [1] * 30), True)
        self.assertEqual(room(lots, outs, 0, [0] * 30, 29), 1)
        self.assertEqual(best(lots, outs, 0), [1] * 30)
        self.assertEqual(greatest(lots, outs, 0), 30)
        self.assertEqual(dealt(lots, outs, 0, [1] * 30), [(at, at, 1) for at in range(30)])
        self.assertIs(is_dealing(lots, outs, 0, [(at, at, 1) for at in range(30)]), True)
        self.assertEqual(counts_of(lots, [(29, 0, 1)]), [0] * 29 + [1])
        self.assertEqual(papers(lots, outs, 0)[0][:2], (1, 30))
        self.assertIs(good_paper(lots, outs, 0, (1, 30, [])), True)


if __name__ == "__main__":
    unittest.main()
