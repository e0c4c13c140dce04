import unittest

from drawback import errors

NAMES = """
    BadDay BadTerm BadCount BadDuty BadRows BadStretch BadTaken NotDealable NoPlace
    BadParts TooMuch NoKind NotRaw NoLot NoOut NoClaim Struck Claimed Called NothingDue
    NothingLeft Full BadShare BadText BadMinutes
""".split()


class Errors(unittest.TestCase):
    def test_any_refusal_is_a_value_error(self):
        self.assertEqual(errors.CustomsError.__bases__, (ValueError,))

    def test_each_class_stands_straight_under_customs_error(self):
        self.assertEqual(len(NAMES), 25)
        for name in NAMES:
            with self.subTest(name=name):
                self.assertEqual(getattr(errors, name).__bases__, (errors.CustomsError,))

    def test_no_two_names_are_one_class(self):
        classes = [getattr(errors, name) for name in NAMES]
        self.assertEqual(len(set(classes)), 25)
        self.assertEqual([found.__name__ for found in classes], NAMES)

    def test_each_one_is_raised_and_taken(self):
        for name in NAMES:
            refusal = getattr(errors, name)
            given = 3 if name == "BadMinutes" else "words"
            for taken in (refusal, errors.CustomsError, ValueError):
                with self.subTest(name=name, taken=taken):
                    with self.assertRaises(taken):
                        raise refusal(given)

    def test_bad_minutes_keep_their_row(self):
        for at in (0, 1, 7, 10 ** 30 - 1):
            self.assertEqual(errors.BadMinutes(at).at, at)
        one, other = errors.BadMinutes(1), errors.BadMinutes(2)
        self.assertEqual((one.at, other.at), (1, 2))


if __name__ == "__main__":
    unittest.main()
