"""The names and the arguments of the interface, as they stand there."""

import importlib
import inspect
import unittest

FUNCTIONS = {
    "days": ["reach(day, term)", "meets(stretch, day, term)"],
    "rows": [
        "checked_lots(lots)", "checked_outs(outs)", "eldest(rows)", "dearest(lots)", "refund(lots, taken)",
    ],
    "room": [
        "against(outs, term, stretch)", "dealable(lots, outs, term, taken)", "room(lots, outs, term, taken, at)",
    ],
    "best": ["best(lots, outs, term)", "greatest(lots, outs, term)"],
    "deal": [
        "dealt(lots, outs, term, taken)", "is_dealing(lots, outs, term, rows)", "counts_of(lots, rows)",
    ],
    "papers": ["papers(lots, outs, term)", "good_paper(lots, outs, term, paper)"],
    "worth": [
        "lot_more(lots, outs, term, day, duty)", "out_more(lots, outs, term, day)",
        "lot_less(lots, outs, term, at)", "out_less(lots, outs, term, at)",
        "line_of(lots, outs, term, day, most)",
    ],
    "sureties": ["vouched(paid, wait, day)", "surety(paid, wait)"],
    "deeds": ["deed_line(deed)", "read_deed(text)"],
    "minutes": ["written(house)", "read_minutes(text)"],
}
CLASSES = {
    "kinds": ("Kinds()", [
        "raw()", "made(parts)", "many()", "is_raw(kind)", "parts(kind)", "holds(kind)", "twin()",
    ]),
    "house": ("House(term, limit, share)", [
        "raw()", "made(parts)", "come(kind, day, count, duty)", "go(kind, day, count)", "strike_lot(lot)",
        "strike_out(out)", "lay(kind, day)", "call_back(claim)", "do(deed)", "undo()", "redo()", "deeds()",
        "twin()", "terms()", "kinds()", "is_raw(kind)", "holds(kind)", "lot(number)", "out(number)",
        "lots(kind)", "outs(kind)", "left(kind, day)", "due(kind, day)", "refund(kind, day)",
        "papers(kind, day)", "account(kind, day)", "claims()", "claim(number)", "purse()", "surety(wait)",
    ]),
    "desk": ("Desk(house)", ["ask(line)"]),
}


class Interface(unittest.TestCase):
    def test_each_function_is_there(self):
        for name, rows in FUNCTIONS.items():
            module = importlib.import_module("drawback." + name)
            for row in rows:
                with self.subTest(module=name, row=row):
                    function = row.split("(")[0]
                    self.assertEqual(function + str(inspect.signature(getattr(module, function))), row)

    def test_each_class_is_there(self):
        for name, (made, rows) in CLASSES.items():
            module = importlib.import_module("drawback." + name)
            kind = getattr(module, made.split("(")[0])
            self.assertEqual(kind.__name__ + str(inspect.signature(kind)), made)
            for row in rows:
                with self.subTest(module=name, row=row):
                    method = row.split("(")[0]
                    given = str(inspect.signature(getattr(kind, method)))
                    self.assertEqual(method + given.replace("self, ", "").replace("self", ""), row)


if __name__ == "__main__":
    unittest.main()
