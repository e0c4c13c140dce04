"""A house beside the model of it, handed the same deeds and asked the same."""

import copy
import unittest

from books import are_stretches, flow_best, sum_of_paper, units_above
from drawback.errors import CustomsError
from drawback.house import House
from model import Model, answers_of, books_of
from refusals import outcome


def called(house, deed):
    """A deed done by the method of its name, parts handed in as a list."""
    name, *given = deed
    return getattr(house, name)(*[list(part) if isinstance(part, tuple) else part for part in given])


class Pairs(unittest.TestCase):
    def pair(self, *terms):
        return House(*terms), Model(*terms)

    def built(self, terms, *deeds):
        """A pair in which deeds were done, none of them refused."""
        house, model = self.pair(*terms)
        for deed in deeds:
            self.assertNotIsInstance(self.step(house, model, deed), type, deed)
        return house, model

    def check_class(self, told):
        """A refusal stands straight under CustomsError, a number or None else."""
        if isinstance(told, type):
            self.assertEqual(told.__mro__[1:3], (CustomsError, ValueError))

    def step(self, house, model, deed, by_name=False):
        """A deed in both: the same told, or refused by the same class; the same books behind."""
        told = outcome(called, house, deed) if by_name else outcome(house.do, deed)
        self.check_class(told)
        wanted = outcome(model.do, deed)
        self.assertEqual(told, wanted, (model.terms(), model.deeds(), deed))
        self.assertIs(type(told), type(wanted))
        self.check_books(house, model)
        return told

    def back_or_again(self, house, model, name):
        """undo or redo in both."""
        told = outcome(getattr(house, name))
        self.check_class(told)
        self.assertEqual(told, outcome(getattr(model, name)), (model.deeds(), name))
        self.check_books(house, model)
        return told

    def some_step(self, chance, maker, house, model):
        """A deed, or one taken back or done again."""
        name = chance.choice(["deed", "deed", "deed", "undo", "undo", "redo", "redo"])
        if name == "deed":
            return self.step(house, model, maker.deed(model), chance.random() < 0.5)
        return self.back_or_again(house, model, name)

    def check_books(self, house, model):
        self.assertEqual(books_of(house), books_of(model))

    def check_answers(self, house, model, days):
        self.assertEqual(answers_of(house, days), answers_of(model, days), (model.deeds(), days))

    def check_papers(self, house, model, kind, day):
        """Papers of the duties of what is left, their units, and that each is good."""
        lots, outs, term = model.bare(kind, day)
        counts = flow_best(lots, outs, term)
        told = house.papers(kind, day)
        duties = sorted({duty for back, count, duty in lots}, reverse=True)
        wanted = [(duty, units_above(lots, counts, duty)) for duty in duties]
        self.assertEqual([paper[:2] for paper in told], wanted)
        for duty, units, stretches in told:
            self.assertTrue(are_stretches(stretches))
            self.assertEqual(sum_of_paper(lots, outs, term, duty, stretches), units)

    def spoil(self, told):
        """A told list, and each one within what was told, changed."""
        if isinstance(told, (list, tuple)):
            for thing in list(told):
                self.spoil(thing)
        if isinstance(told, list):
            told.reverse()
            told.append(77)
            told[0] = -5


def frozen(told):
    """A copy of what was told, to be held against it later."""
    return copy.deepcopy(told)
