import random
import unittest

from drawback.deeds import deed_line
from drawback.desk import Desk
from drawback.house import House
from lines import SIGNS, deed_of, is_number, spoilt
from model import Maker, Model, books_of, some_days, some_terms
from refusals import outcome

QUESTIONS = {
    "undo": 0, "redo": 0, "due": 2, "refund": 2, "account": 2, "holds": 1, "purse": 0, "surety": 1, "claim": 1,
}


def row_text(row):
    return " ".join(str(number) for number in row)


def rows_text(rows):
    return "; ".join(row_text(row) for row in rows) or "none"


def flat(deed):
    """The name and the numbers of a deed in one row."""
    if deed[0] == "made":
        return [deed[0]] + [number for pair in deed[1] for number in pair]
    return list(deed)


def wanted_text(model, line):
    """The answer to a line as [22] tells it, of the model of a house."""
    words = line.split(" ")
    name, numbers = words[0], words[1:]
    if name in QUESTIONS:
        if len(numbers) != QUESTIONS[name] or not all(is_number(word) for word in numbers):
            return "what"
        told = outcome(getattr(model, name), *[int(word) for word in numbers])
    else:
        deed = deed_of(line)
        if deed is None:
            return "what"
        told = outcome(model.do, deed)
        name = "deed"
    if isinstance(told, type):
        return "refused " + told.__name__.lower()
    if name in ("undo", "redo"):
        return row_text(flat(told))
    if name in ("due", "holds"):
        return rows_text(told)
    if name == "claim":
        return rows_text(told[4])
    if name in ("account", "surety"):
        return row_text(told)
    return "done" if told is None else str(told)


def some_line(chance, maker, model):
    """A deed's line, undo, redo, or a question of what is there or not."""
    way = chance.choice(["deed"] * 6 + list(QUESTIONS))
    kind = chance.choice([maker.kind(model, True), maker.kind(model, True), chance.randint(0, 13)])
    day = chance.choice(some_days(chance, model, 1) + [maker.number(maker.first, 0, 1000)])
    if way == "deed":
        return deed_line(maker.deed(model))
    if way in ("due", "refund", "account"):
        return f"{way} {kind} {day}"
    if way == "holds":
        return f"holds {maker.kind(model, False)}"
    if way == "surety":
        return f"surety {chance.choice([0, 5, 400, 401, 9999999, chance.randint(0, 400)])}"
    if way == "claim":
        return f"claim {chance.randint(0, len(books_of(model)['claim']) + 1)}"
    return way


class Told(unittest.TestCase):
    def talk(self, house, *rows):
        """Lines and their answers, one behind the other."""
        desk = Desk(house)
        for line, answer in rows:
            self.assertEqual(desk.ask(line), answer, line)

    def test_ordinary(self):
        self.talk(
            House(30, 90, 80),
            ("undo", "refused nothingleft"), ("redo", "refused nothingleft"), ("purse", "0"), ("surety 0", "0 0"),
            ("raw", "1"), ("raw", "2"), ("made 1 3 2 40", "3"), ("made 2 1 3 2", "4"),
            ("holds 1", "1 1"), ("holds 4", "1 6; 2 81"), ("holds 5", "refused nokind"),
            ("come 1 20 300 7", "1"), ("due 1 25", "none"), ("refund 1 25", "0"), ("account 1 25", "2100 0 0 0 2100"),
            ("go 3 25 10", "1"), ("go 1 26 5", "2"), ("due 1 26", "1 1 30; 1 2 5"), ("refund 1 26", "245"),
            ("lay 1 26", "1"), ("claim 1", "1 1 30; 1 2 5"), ("purse", "196"), ("surety 30", "196 26"),
            ("account 1 26", "2100 196 49 0 1855"), ("strike_lot 1", "refused claimed"),
            ("lay 1 26", "refused nothingdue"), ("call_back 1", "done"), ("call_back 1", "refused called"),
            ("undo", "call_back 1"), ("redo", "call_back 1"),
            ("claim 1", "1 1 30; 1 2 5"), ("purse", "0"), ("strike_out 2", "done"), ("strike_out 2", "refused struck"),
            ("undo", "strike_out 2"), ("undo", "call_back 1"), ("undo", "lay 1 26"), ("undo", "go 1 26 5"),
            ("undo", "go 3 25 10"), ("undo", "come 1 20 300 7"), ("undo", "made 2 1 3 2"), ("redo", "made 2 1 3 2"),
        )

    def test_each_refusal(self):
        self.talk(
            House(30, 90, 80),
            ("raw", "1"), ("made 1 100", "2"), ("made 2 100", "3"),
            ("come 9 0 0 0", "refused nokind"), ("come 2 0 0 0", "refused notraw"), ("come 1 0 0 0", "refused badday"),
            ("come 1 1000 1 1", "refused badday"), ("come 1 1 0 0", "refused badcount"),
            ("come 1 1 1 0", "refused badduty"), ("come 1 1 1000001 1", "refused badcount"),
            ("come 1 1 1 1000001", "refused badduty"),
            ("go 0 1 1", "refused nokind"), ("go 2 0 1", "refused badday"), ("go 2 1 0", "refused badcount"),
            ("made 1 0", "refused badparts"), ("made 3 2", "refused toomuch"), ("strike_lot 1", "refused nolot"),
            ("strike_out 1", "refused noout"), ("lay 0 0", "refused nokind"), ("lay 2 0", "refused notraw"),
            ("lay 1 0", "refused badday"), ("lay 1 1", "refused nothingdue"), ("call_back 1", "refused noclaim"),
            ("claim 1", "refused noclaim"), ("claim 0", "refused noclaim"), ("surety 401", "refused badterm"),
            ("due 0 0", "refused nokind"), ("due 2 0", "refused notraw"), ("due 1 0", "refused badday"),
            ("refund 4 1", "refused nokind"), ("refund 3 1000", "refused notraw"), ("refund 1 1000", "refused badday"),
            ("account 0 1", "refused nokind"), ("account 2 1", "refused notraw"), ("account 1 0", "refused badday"),
            ("holds 0", "refused nokind"), ("redo", "refused nothingleft"),
            *[("raw", str(number)) for number in range(4, 13)], ("raw", "refused full"), ("made 1 1", "refused full"),
        )

    def test_other_lines(self):
        house = House(30, 90, 80)
        for line in ["raw", "come 1 5 9 9", "go 1 6 4", "lay 1 6", "undo"]:
            Desk(house).ask(line)
        desk, kept = Desk(house), books_of(house)
        for line in [
            "", " ", "\n", "what", "done", "none", "undo 1", "redo 1", "undo ", " undo", "Undo", "UNDO", "redo\n",
            "undo\nredo", "due", "due 1", "due 1 5 1", "due 1  5", "due 1 5 ", "due 01 5", "due 1 05", "due 1 x",
            "due 1 -5", "due 1 12345678", "refund 1", "refund 1 5 5", "refund", "refund 1 5\n", "account", "account 1",
            "account 1 5 1", "holds", "holds 1 1", "holds x", "purse 1", "purse ", "purse\n", "surety", "surety 1 1",
            "surety 00", "surety 0400", "claim", "claim 1 1", "claim 01", "house 1 1 1", "left 1 5", "papers 1 5",
            "terms", "deeds", "kinds", "twin", "do raw", "lot 1", "out 1", "lots 1", "outs 1", "claims", "is_raw 1",
            "raw 1", "made", "made 1", "come 1 5 9", "lay 1", "lay 9 99 9", "surety 12345678",
            "claim 99999999", "books",
        ]:
            self.assertEqual(desk.ask(line), "what", line)
            self.assertEqual(books_of(house), kept)
        self.assertEqual(desk.ask("redo"), "lay 1 6")

    def test_the_very_house(self):
        house = House(1, 2, 3)
        desk = Desk(house)
        self.assertIs(desk.house, house)
        desk.ask("raw")
        self.assertEqual(house.kinds(), 1)
        house.raw()
        self.assertEqual((desk.ask("raw"), desk.ask("undo"), desk.ask("purse")), ("3", "raw", "0"))
        self.assertIs(desk.house, house)
        self.assertEqual(Desk(house.twin()).ask("raw"), "3")
        self.assertEqual(desk.ask("raw"), "3")


class Any(unittest.TestCase):
    def check_answer(self, desk, model, line):
        deeds = model.deeds()
        wanted = wanted_text(model, line)
        told = desk.ask(line)
        self.assertEqual(told, wanted, (model.terms(), deeds, line))
        self.assertIs(type(told), str)
        self.assertEqual(books_of(desk.house), books_of(model))

    def test_two_desks_of_one_house(self):
        chance = random.Random(1)
        for step in range(100):
            terms = some_terms(chance)
            house, model = House(*terms), Model(*terms)
            desks = [Desk(house), Desk(house)]
            maker = Maker(chance, 0.03)
            for place in range(26):
                if chance.random() < 0.15:
                    deed = maker.deed(model)
                    self.assertEqual(outcome(house.do, deed), outcome(model.do, deed))
                line = some_line(chance, maker, model)
                self.check_answer(chance.choice(desks), model, line)
            for desk in desks:
                self.assertIs(desk.house, house)

    def test_spoilt_lines(self):
        chance = random.Random(2)
        whats = 0
        for step in range(60):
            terms = some_terms(chance)
            desk, model = Desk(House(*terms)), Model(*terms)
            maker = Maker(chance, 0)
            for place in range(40):
                line = some_line(chance, maker, model)
                if chance.random() < 0.6:
                    line = spoilt(chance, line)
                if chance.random() < 0.05:
                    line = "".join(chance.choice(SIGNS) for sign in range(chance.randint(0, 9)))
                whats += wanted_text(model.twin(), line) == "what"
                self.check_answer(desk, model, line)
        self.assertGreater(whats, 500)


if __name__ == "__main__":
    unittest.main()
