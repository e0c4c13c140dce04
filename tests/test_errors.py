import unittest

from drawback import errors
from drawback.days import meets, reach
from drawback.deeds import read_deed
from drawback.house import House
from drawback.minutes import read_minutes
from drawback.room import room
from drawback.rows import checked_lots, checked_outs, refund

NAMES = """
    BadDay BadTerm BadCount BadDuty BadRows BadStretch BadTaken NotDealable NoPlace
    BadParts TooMuch NoKind NotRaw NoLot NoOut NoClaim Struck Claimed Called NothingDue
    NothingLeft Full BadShare BadText BadMinutes
""".split()


# What each class refuses, of a house in which lot 1 and out 1 are claimed and lot 2 is struck.
REFUSED = {
    "BadDay": lambda house: reach(0, 5),
    "BadTerm": lambda house: House(401, 0, 1),
    "BadCount": lambda house: checked_outs([(5, 0)]),
    "BadDuty": lambda house: checked_lots([(5, 1, 0)]),
    "BadRows": lambda house: checked_outs([(5, 1)] * 31),
    "BadStretch": lambda house: meets((5, 4), 5, 5),
    "BadTaken": lambda house: refund([(5, 1, 1)], [2]),
    "NotDealable": lambda house: room([(5, 1, 1)], [], 5, [1], 0),
    "NoPlace": lambda house: room([(5, 1, 1)], [], 5, [0], 1),
    "BadParts": lambda house: house.made([]),
    "TooMuch": lambda house: house.made([(3, 2)]),
    "NoKind": lambda house: house.holds(13),
    "NotRaw": lambda house: house.lots(2),
    "NoLot": lambda house: house.lot(3),
    "NoOut": lambda house: house.strike_out(2),
    "NoClaim": lambda house: house.claim(3),
    "Struck": lambda house: house.strike_lot(2),
    "Claimed": lambda house: house.strike_out(1),
    "Called": lambda house: house.call_back(1),
    "NothingDue": lambda house: house.lay(1, 5),
    "NothingLeft": lambda house: house.redo(),
    "Full": lambda house: [house.raw() for step in range(10)],
    "BadShare": lambda house: House(0, 0, 101),
    "BadText": lambda house: read_deed("lay 1"),
    "BadMinutes": lambda house: read_minutes("house 1 1 1\nraw\nlay 1 1"),
}


def some_house():
    house = House(5, 5, 50)
    for deed in [
        ("raw",), ("made", ((1, 100),)), ("made", ((2, 100),)), ("come", 1, 5, 5, 5), ("come", 1, 5, 5, 5),
        ("strike_lot", 2), ("go", 1, 5, 2), ("lay", 1, 5), ("call_back", 1), ("lay", 1, 5),
    ]:
        house.do(deed)
    return house


class Errors(unittest.TestCase):
    def test_any_refusal_is_a_value_error(self):
        self.assertEqual(errors.CustomsError.__bases__, (ValueError,))

    def test_each_class_stands_straight_under_customs_error(self):
        self.assertEqual(len(NAMES), 25)
        for name in NAMES:
            with self.subTest(name=name):
                self.assertEqual(getattr(errors, name).__bases__, (errors.CustomsError,))

    def test_no_two_names_are_one_class(self):
        classes = [getattr(errors, name) for name in NAMES]
        self.assertEqual(len(set(classes)), 25)
        self.assertEqual([found.__name__ for found in classes], NAMES)

    def test_each_one_is_raised_and_taken(self):
        for name in NAMES:
            refusal = getattr(errors, name)
            given = 3 if name == "BadMinutes" else "words"
            for taken in (refusal, errors.CustomsError, ValueError):
                with self.subTest(name=name, taken=taken):
                    with self.assertRaises(taken):
                        raise refusal(given)

    def test_each_refusal_is_of_its_class_and_of_no_other(self):
        self.assertEqual(sorted(REFUSED), sorted(NAMES))
        for name, call in REFUSED.items():
            with self.subTest(name=name):
                with self.assertRaises(errors.CustomsError) as raised:
                    call(some_house())
                found = [other for other in NAMES if isinstance(raised.exception, getattr(errors, other))]
                self.assertEqual(found, [name])
                self.assertIsInstance(raised.exception, ValueError)

    def test_bad_minutes_keep_their_row(self):
        with self.assertRaises(errors.BadMinutes) as raised:
            read_minutes("house 1 1 1\nraw\nlay 1 1")
        self.assertEqual(raised.exception.at, 2)
        for at in (0, 1, 7, 10 ** 30 - 1):
            self.assertEqual(errors.BadMinutes(at).at, at)
        one, other = errors.BadMinutes(1), errors.BadMinutes(2)
        self.assertEqual((one.at, other.at), (1, 2))


if __name__ == "__main__":
    unittest.main()
