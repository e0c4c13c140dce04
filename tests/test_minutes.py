import random
import unittest

from drawback.deeds import deed_line
from drawback.errors import BadMinutes, CustomsError, NothingLeft
from drawback.house import House
from drawback.minutes import read_minutes, written
from lines import deed_of, is_number, some_deed, spoilt
from model import Maker, Model, answers_of, books_of, some_days, some_terms
from refusals import FAR, outcome


def read_by_rows(text):
    """The model of the house that minutes tell, or the number of their first bad row."""
    for at, row in enumerate(text.split("\n")):
        if not at:
            words = row.split(" ")
            if len(words) != 4 or words[0] != "house" or not all(is_number(word) for word in words[1:]):
                return 0
            term, limit, share = [int(word) for word in words[1:]]
            if term > 400 or limit > 400 or not 1 <= share <= 100:
                return 0
            model = Model(term, limit, share)
        else:
            deed = deed_of(row)
            if deed is None or isinstance(outcome(model.do, deed), type):
                return at
    return model


def some_house(chance, many):
    """A house of some deeds, some of them taken back."""
    house = House(*some_terms(chance))
    maker = Maker(chance, 0.02)
    for step in range(many):
        outcome(house.do, maker.deed(house))
    for step in range(chance.choice([0, 0, 1, 5])):
        outcome(house.undo)
    return house


def spoilt_minutes(chance, text):
    """A row spoilt, gone, twice, put elsewhere, empty, a deed put in, other terms, a line feed behind."""
    rows = text.split("\n")
    at = chance.randrange(len(rows))
    way = chance.choice(["spoilt", "gone", "twice", "moved", "empty", "deed", "terms", "behind", "ahead", "joined"])
    if way == "spoilt":
        rows[at] = spoilt(chance, rows[at])
    elif way == "gone":
        del rows[at]
    elif way == "twice":
        rows.insert(at, rows[at])
    elif way == "moved":
        rows.insert(chance.randrange(len(rows)), rows.pop(at))
    elif way == "empty":
        rows.insert(at, "")
    elif way == "deed":
        rows.insert(at + 1, chance.choice([deed_line(some_deed(chance)), "raw", "call_back 1", "made 1 2", "undo"]))
    elif way == "terms":
        numbers = [str(chance.choice([0, 1, 100, 101, 400, 401, 9999999])) for step in range(3)]
        rows[0] = "house " + " ".join(numbers)
    elif way == "behind":
        rows.append("")
    elif way == "ahead":
        rows.insert(0, "")
    else:
        return text.replace("\n", chance.choice([" ", "", "\n\n"]), 1)
    return "\n".join(rows)


class Minutes(unittest.TestCase):
    def test_ordinary(self):
        house = House(30, 90, 80)
        self.assertEqual(written(house), "house 30 90 80")
        house.raw(), house.raw(), house.made([(1, 3), (2, 40)])
        house.come(1, 20, 300, 7), house.go(3, 25, 10), house.lay(1, 90)
        house.raw()
        house.undo()
        text = "house 30 90 80\nraw\nraw\nmade 1 3 2 40\ncome 1 20 300 7\ngo 3 25 10\nlay 1 90"
        self.assertEqual(written(house), text)
        read = read_minutes(text)
        self.assertIs(type(read), House)
        self.assertEqual(books_of(read), books_of(house))
        self.assertIs(outcome(read.redo), NothingLeft)
        self.assertEqual(house.redo(), ("raw",))
        self.assertEqual(read_minutes("house 0 400 1").terms(), (0, 400, 1))

    def test_any_house_written_and_read(self):
        chance = random.Random(1)
        for step in range(60):
            house = some_house(chance, 24)
            text = written(house)
            books, days = books_of(house), some_days(chance, house, 2)
            one, other = read_minutes(text), read_minutes(text)
            for read in (one, other):
                self.assertEqual(books_of(read), books)
                self.assertEqual(answers_of(read, days), answers_of(house, days))
                self.assertEqual(written(read), text)
                self.assertIs(outcome(read.redo), NothingLeft)
            deed = Maker(chance, 0).deed(house)
            self.assertEqual(outcome(one.do, deed), outcome(house.do, deed))
            self.assertEqual(books_of(one), books_of(house))
            self.assertEqual(books_of(other), books)
            while one.deeds():
                one.undo()
            self.assertEqual((written(one).count("\n"), books_of(other)), (0, books))

    def test_writing_changes_nothing(self):
        house = some_house(random.Random(2), 20)
        kept = books_of(house)
        text = written(house)
        self.assertEqual((written(house), books_of(house)), (text, kept))

    def check_bad(self, text, at):
        with self.assertRaises(CustomsError) as raised:
            read_minutes(text)
        self.assertIs(type(raised.exception), BadMinutes, text)
        self.assertEqual(raised.exception.at, at, text)

    def test_bad_first_rows(self):
        for row in [
            "", " ", "house", "house 1 2", "house 1 2 3 4", "house 401 2 3", "house 1 401 3", "house 1 2 0",
            "house 1 2 101", "house 01 2 3", "house 1  2 3", "house 1 2 3 ", " house 1 2 3", "House 1 2 3",
            "house -1 2 3", "house 1 2 x", "house 12345678 2 3", "raw", f"house {FAR} 1 1", "house 1 2 03",
        ]:
            self.check_bad(row, 0)
            self.check_bad(row + "\nraw", 0)
            self.check_bad(row + "\nnone\nraw", 0)

    def test_bad_rows(self):
        for rows, at in [
            ("", 1), ("\n", 1), ("raw\n", 2), ("raw\n\nraw", 2), ("raw\nhouse 1 2 3", 2), ("raw\nundo", 2),
            ("raw\nraw x\nraw", 2), ("come 1 1 1 1\nraw", 1), ("raw\ncome 1 1 1 0\nnone", 2),
            ("raw\nlay 1 1", 2), ("raw\ncome 1 1 1 1\nstrike_lot 1\nstrike_lot 1", 4), ("\n".join(["raw"] * 13), 13),
            ("raw\nmade 1 101", 2), ("raw\npurse", 2), ("raw\nrefund 1 1", 2),
        ]:
            self.check_bad("house 30 90 80\n" + rows, at)

    def test_spoilt_minutes(self):
        chance = random.Random(3)
        bad = 0
        for step in range(600):
            text = written(some_house(chance, chance.choice([3, 12, 24])))
            for place in range(chance.choice([1, 1, 2])):
                text = spoilt_minutes(chance, text)
            wanted = read_by_rows(text)
            if isinstance(wanted, int):
                bad += 1
                self.check_bad(text, wanted)
            else:
                self.assertEqual(books_of(read_minutes(text)), books_of(wanted))
        self.assertTrue(100 < bad < 590)


if __name__ == "__main__":
    unittest.main()
