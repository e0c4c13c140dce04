import random
import unittest

from drawback.errors import BadParts, CustomsError, Full, NoKind, TooMuch
from drawback.kinds import Kinds
from refusals import FAR, outcome


class Shelf:
    """Kinds as the document tells them: parts by kinds, and what is held gone through."""

    def __init__(self, rows=()):
        self.rows = list(rows)

    def held(self, kind):
        if not self.rows[kind - 1]:
            return {kind: 1}
        sums = {}
        for part, number in self.rows[kind - 1]:
            for base, units in self.held(part).items():
                sums[base] = sums.get(base, 0) + number * units
        return sums

    def answer(self, parts):
        """What putting in a kind of parts (None for a raw one) is to tell."""
        if parts is not None:
            names = [kind for kind, number in parts]
            if not parts or names != sorted(set(names)) or not 1 <= names[0] <= names[-1] <= len(self.rows):
                return BadParts
            if not all(1 <= number <= 100 for kind, number in parts):
                return BadParts
            held = Shelf(self.rows + [parts]).held(len(self.rows) + 1)
            if max(held.values()) > 10000:
                return TooMuch
        if len(self.rows) == 12:
            return Full
        self.rows.append(list(parts or []))
        return len(self.rows)


def put(kinds, parts):
    return outcome(kinds.raw) if parts is None else outcome(kinds.made, parts)


def some_parts(chance, many, numbers):
    """One to three kinds ahead, rising, each once."""
    if not many:
        return None
    names = sorted(chance.sample(range(1, many + 1), min(many, chance.randint(1, 3))))
    return [(kind, chance.randint(1, numbers)) for kind in names]


def spoilt(chance, parts, many):
    """Parts with a fault, or none at all."""
    way = chance.choice(["none", "twice", "falling", "absent", "own", "number", "below"])
    told = list(parts)
    at = chance.randrange(len(told))
    kind, number = told[at]
    if way == "none":
        return []
    if way == "twice":
        return told[:at] + [(kind, number)] + told[at:]
    if way == "falling":
        return told + [(kind, number)] if len(told) == 1 else told[::-1]
    if way == "absent":
        return told + [(chance.choice([many + 2, 13, FAR]), 1)]
    if way == "own":
        return told + [(many + 1, 1)]
    if way == "below":
        return [(chance.choice([0, -1, -FAR]), 1)] + told
    told[at] = (kind, chance.choice([0, 101, -1, FAR, -FAR]))
    return told


class Alike(unittest.TestCase):
    def check_alike(self, kinds, shelf):
        """All that kinds tell, twice, with the told lists changed between."""
        for step in range(2):
            self.assertEqual(kinds.many(), len(shelf.rows))
            for kind, parts in enumerate(shelf.rows, 1):
                self.assertIs(kinds.is_raw(kind), not parts)
                self.assertEqual(kinds.parts(kind), parts)
                self.assertEqual(kinds.holds(kind), sorted(shelf.held(kind).items()))
                for told in (kinds.parts(kind), kinds.holds(kind)):
                    self.assertIs(type(told), list)
                    self.assertTrue(all(type(row) is tuple for row in told))
                    told.append((1, 1))
                    told[0] = (99, 99)


class Filled(Alike):
    def test_ordinary(self):
        kinds = Kinds()
        self.assertEqual(kinds.many(), 0)
        self.assertEqual([kinds.raw(), kinds.raw(), kinds.made([(1, 3), (2, 40)])], [1, 2, 3])
        self.assertEqual(kinds.made([(2, 1), (3, 2)]), 4)
        self.assertEqual(kinds.raw(), 5)
        self.assertEqual(kinds.holds(4), [(1, 6), (2, 81)])
        self.assertEqual(kinds.parts(4), [(2, 1), (3, 2)])
        self.assertEqual((kinds.holds(1), kinds.parts(1)), ([(1, 1)], []))
        self.assertEqual(kinds.holds(5), [(5, 1)])
        self.assertEqual([kinds.is_raw(kind) for kind in range(1, 6)], [True, True, False, False, True])

    def test_any(self):
        chance = random.Random(1)
        for step in range(150):
            kinds, shelf, numbers = Kinds(), Shelf(), chance.choice([6, 100])
            for place in range(chance.randint(1, 14)):
                parts = None
                if chance.random() < 0.7:
                    parts = some_parts(chance, len(shelf.rows), numbers)
                kept = None if parts is None else list(parts)
                self.assertEqual(put(kinds, parts), shelf.answer(kept))
                self.assertEqual(parts, kept)
                self.check_alike(kinds, shelf)

    def test_parts_handed_in_are_kept_as_a_copy(self):
        kinds = Kinds()
        kinds.raw()
        parts = [(1, 2)]
        kinds.made(parts)
        parts[0] = (1, 99)
        parts.append((2, 5))
        self.assertEqual((kinds.parts(2), kinds.holds(2)), ([(1, 2)], [(1, 2)]))

    def test_parts_as_a_tuple(self):
        kinds = Kinds()
        kinds.raw()
        kinds.made(((1, 2),))
        self.assertEqual(kinds.parts(2), [(1, 2)])


class Refused(Alike):
    def check_refusal(self, kinds, shelf, parts, refusal):
        self.assertEqual(refusal.__mro__[1:3], (CustomsError, ValueError))
        kept = None if parts is None else list(parts)
        self.assertIs(put(kinds, parts), refusal, (shelf.rows, parts))
        self.assertEqual(parts, kept)
        self.check_alike(kinds, shelf)

    def shelved(self, *rows):
        kinds, shelf = Kinds(), Shelf()
        for parts in rows:
            self.assertEqual(put(kinds, parts), shelf.answer(parts))
        self.assertEqual(len(shelf.rows), len(rows))
        return kinds, shelf

    def test_bad_parts(self):
        kinds, shelf = self.shelved(None, None, [(1, 2), (2, 3)])
        for parts in [
            [], [(1, 1), (1, 1)], [(2, 1), (1, 1)], [(1, 1), (3, 1), (2, 1)], [(4, 1)], [(5, 1)], [(0, 1)],
            [(-1, 1)], [(FAR, 1)], [(-FAR, 1)], [(1, 0)], [(1, 101)], [(1, -1)], [(1, FAR)], [(1, -FAR)],
            [(1, 1), (2, 0)], [(1, 101), (2, 1)], [(1, 1), (4, 1)], [(1, 1), (2, 1), (2, 1)], [(1, 1)] * 40,
        ]:
            self.check_refusal(kinds, shelf, parts, BadParts)

    def test_bad_parts_where_none_are(self):
        for parts in [[], [(1, 1)], [(0, 1)]]:
            self.check_refusal(Kinds(), Shelf(), parts, BadParts)

    def test_just_ten_thousand(self):
        kinds, shelf = self.shelved(None, [(1, 100)], [(2, 100)], None, [(3, 1), (4, 100)])
        for parts in [[(3, 2)], [(1, 1), (3, 1)], [(5, 2)], [(4, 1), (5, 2)], [(1, 1), (2, 100)]]:
            self.check_refusal(kinds, shelf, parts, TooMuch)
        for parts in [[(5, 1)], [(2, 99), (1, 100)][::-1], [(4, 100)], [(1, 100), (2, 99), (4, 100)]]:
            self.assertEqual(put(kinds, parts), shelf.answer(parts))
            self.check_alike(kinds, shelf)

    def test_too_much_behind_bad_parts(self):
        kinds, shelf = self.shelved(None, [(1, 100)], [(2, 100)])
        for parts in [[(3, 2), (1, 1)], [(3, 101)], [(3, 2), (4, 1)], [(3, 100), (3, 100)]]:
            self.check_refusal(kinds, shelf, parts, BadParts)

    def test_the_thirteenth(self):
        kinds, shelf = self.shelved(None, [(1, 100)], [(2, 100)], *[None] * 9)
        self.check_refusal(kinds, shelf, None, Full)
        self.check_refusal(kinds, shelf, [(1, 1)], Full)
        self.check_refusal(kinds, shelf, [(3, 1)], Full)
        self.check_refusal(kinds, shelf, [(3, 2)], TooMuch)
        for parts in [[], [(13, 1)], [(3, 101)], [(12, 1), (1, 1)]]:
            self.check_refusal(kinds, shelf, parts, BadParts)

    def test_no_kind(self):
        for rows in [[], [None], [None, [(1, 2)]], [None] * 12]:
            kinds, shelf = self.shelved(*rows)
            for kind in [0, -1, -FAR, len(rows) + 1, len(rows) + 2, 13, FAR]:
                for ask in (kinds.is_raw, kinds.parts, kinds.holds):
                    self.assertIs(outcome(ask, kind), NoKind)
                self.check_alike(kinds, shelf)

    def test_any(self):
        chance = random.Random(2)
        for step in range(120):
            kinds, shelf = Kinds(), Shelf()
            for place in range(chance.choice([5, 25])):
                parts = some_parts(chance, len(shelf.rows), chance.choice([6, 100]))
                if parts and chance.random() < 0.4:
                    parts = spoilt(chance, parts, len(shelf.rows))
                if chance.random() < 0.2:
                    parts = None
                wanted = shelf.answer(parts)
                self.assertEqual(put(kinds, parts), wanted, (shelf.rows, parts))
                self.check_alike(kinds, shelf)


class Twins(Alike):
    def test_each_goes_its_own_way(self):
        chance = random.Random(3)
        for step in range(60):
            one, shelf = Kinds(), Shelf()
            for place in range(chance.randint(0, 6)):
                parts = chance.choice([None, some_parts(chance, len(shelf.rows), 4)])
                self.assertEqual(put(one, parts), shelf.answer(parts))
            other = one.twin()
            sides = [(one, shelf), (other, Shelf(shelf.rows)), (other.twin(), Shelf(shelf.rows))]
            for place in range(15):
                kinds, own = chance.choice(sides)
                parts = chance.choice([None, some_parts(chance, len(own.rows), 9)])
                self.assertEqual(put(kinds, parts), own.answer(parts))
                for side in sides:
                    self.assertIs(type(side[0]), Kinds)
                    self.check_alike(*side)

    def test_new_ones_know_nothing_of_others(self):
        one = Kinds()
        one.raw()
        self.assertEqual(Kinds().many(), 0)
        self.assertEqual(one.twin().many(), 1)


if __name__ == "__main__":
    unittest.main()
