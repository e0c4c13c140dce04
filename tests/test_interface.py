"""The names and the arguments of the interface, as they stand there."""

import importlib
import inspect
import unittest

FUNCTIONS = {
    "days": ["reach(day, term)", "meets(stretch, day, term)"],
    "rows": [
        "checked_lots(lots)", "checked_outs(outs)", "eldest(rows)", "dearest(lots)", "refund(lots, taken)",
    ],
    "room": [
        "against(outs, term, stretch)", "dealable(lots, outs, term, taken)", "room(lots, outs, term, taken, at)",
    ],
    "best": ["best(lots, outs, term)", "greatest(lots, outs, term)"],
    "deal": [
        "dealt(lots, outs, term, taken)", "is_dealing(lots, outs, term, rows)", "counts_of(lots, rows)",
    ],
    "papers": ["papers(lots, outs, term)", "good_paper(lots, outs, term, paper)"],
}


class Interface(unittest.TestCase):
    def test_each_function_is_there(self):
        for name, rows in FUNCTIONS.items():
            module = importlib.import_module("drawback." + name)
            for row in rows:
                with self.subTest(module=name, row=row):
                    function = row.split("(")[0]
                    self.assertEqual(function + str(inspect.signature(getattr(module, function))), row)


if __name__ == "__main__":
    unittest.main()
