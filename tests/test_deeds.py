import random
import unittest

from drawback.deeds import deed_line, read_deed
from drawback.errors import BadText, CustomsError
from lines import SIGNS, deed_of, some_deed, spoilt
from refusals import outcome

WRITTEN = [
    (("raw",), "raw"),
    (("made", ((1, 3), (2, 40))), "made 1 3 2 40"),
    (("made", ((1, 3),)), "made 1 3"),
    (("come", 1, 20, 300, 7), "come 1 20 300 7"),
    (("go", 3, 25, 10), "go 3 25 10"),
    (("strike_lot", 1), "strike_lot 1"),
    (("strike_out", 2), "strike_out 2"),
    (("lay", 1, 90), "lay 1 90"),
    (("call_back", 1), "call_back 1"),
    (("come", 0, 9999999, 0, 1000000), "come 0 9999999 0 1000000"),
    (("made", ((0, 0), (0, 0), (9999999, 1))), "made 0 0 0 0 9999999 1"),
]
NONE = [
    "", " ", "\n", "raw ", " raw", "raw 1", "raw\n", "\nraw", "Raw", "RAW", "raw raw", "made", "made ", "made 1",
    "made 1 2 3", "made 1  2", "made 1 2 ", "made 01 2", "come", "come 1 20 300", "come 1 20 300 7 1",
    "come  1 20 300 7", "come 1 20 300 7 ", " come 1 20 300 7", "come 1 20 300 07", "come 1 20 300 7\n",
    "come 1 20\n300 7", "come 1 20 300 12345678", "come 1 20 300 -7", "come 1 20 300 +7", "come 1 20 300 7.0",
    "come 1 20 300 seven", "come 1 20 300 00", "come 1,20,300,7", "go 3 25", "go 3 25 10 1", "go", "strike_lot",
    "strike_lot 1 2", "strike lot 1", "strike_out", "strike_lot 1\n", "lay 1", "lay 1 90 1", "lay 1 090",
    "call_back", "call_back 1 1", "call back 1", "undo", "redo", "purse", "due 1 5", "house 1 1 1", "1",
    "come 1_0 2 3 4",
    "come 1 20 300 0x7", "lay 1 9e1", "made 1 3;2 40", "none", "what", "lay 1 00000001", "lay 10000000 1",
]


class Texts(unittest.TestCase):
    def test_ordinary(self):
        for deed, line in WRITTEN:
            self.assertEqual(deed_line(deed), line)
            self.assertEqual(read_deed(line), deed)

    def test_kinds_of_what_is_told(self):
        for deed, line in WRITTEN:
            told = read_deed(line)
            self.assertEqual([type(told), type(deed_line(deed))], [tuple, str])
            if told[0] == "made":
                self.assertEqual({type(thing) for thing in (told[1],) + told[1]}, {tuple})

    def test_any_deed_written_and_read(self):
        chance = random.Random(1)
        for step in range(2000):
            deed = some_deed(chance)
            line = deed_line(deed)
            self.assertEqual(read_deed(line), deed)
            self.assertEqual(deed_line(read_deed(line)), line)
            self.assertEqual(deed_of(line), deed)

    def test_no_deeds(self):
        for line in NONE:
            self.assertIs(outcome(read_deed, line), BadText, line)
        self.assertEqual(BadText.__mro__[1:3], (CustomsError, ValueError))

    def test_spoilt_lines(self):
        chance = random.Random(2)
        refused = 0
        for step in range(6000):
            line = deed_line(some_deed(chance))
            for place in range(chance.choice([1, 1, 2])):
                line = spoilt(chance, line)
            wanted = deed_of(line)
            told = outcome(read_deed, line)
            self.assertEqual(told, BadText if wanted is None else wanted, line)
            refused += wanted is None
            if wanted is not None:
                self.assertEqual(deed_line(told), line)
        self.assertGreater(refused, 1000)

    def test_any_signs(self):
        chance = random.Random(3)
        for step in range(1000):
            line = "".join(chance.choice(SIGNS) for place in range(chance.randint(0, 12)))
            wanted = deed_of(line)
            self.assertEqual(outcome(read_deed, line), BadText if wanted is None else wanted, line)

    def test_bounds_are_not_looked_at(self):
        self.assertEqual(read_deed("come 0 0 0 0"), ("come", 0, 0, 0, 0))
        self.assertEqual(read_deed("made 5 101 5 0 1 1"), ("made", ((5, 101), (5, 0), (1, 1))))
        self.assertEqual(read_deed("lay 9999999 9999999"), ("lay", 9999999, 9999999))


if __name__ == "__main__":
    unittest.main()
