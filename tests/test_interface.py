"""The examples of the interface, one after the other as they stand there, and the names of the later files."""

import inspect
import re
import unittest
from importlib import import_module
from pathlib import Path

from jointdraws import errors
from jointdraws.live import Live

EXAMPLES = Path(__file__).resolve().parent / "interface.txt"
SIGNATURES = {
    "design": {"is_safe": "(draw, most, limit, *, stake=0)", "weak_spot": "(draw, most, limit, *, stake=0)",
               "cheapest": "(draw, prices, most, limit, *, stake=0)", "best_stand_ins": "(draw, most, *, stake=0)"},
    "duels": {"duel": "(draw, first, second, wish, *, stake=0)", "guards": "(draw, first, second, wish, *, stake=0)",
              "duel_table": "(draw, first, second, wish, *, stake=0)",
              "is_duel_table": "(draw, first, second, wish, value, *, stake=0)"},
    "guards": {"is_guard": "(draw, first, second, value)", "made_sure": "(draw, first, second, wish, guard, *, stake=0)",
               "kept_to": "(draw, first, second, wish, guard, *, stake=0)"},
    "habits": {"habit_shares": "(draw, wishes, habit)", "got": "(draw, wishes, habit)", "is_settled": "(draw, wishes, value)",
               "better_number": "(draw, wishes, habit)", "settled_habits": "(draw, wishes)", "settled_bounds": "(draw, wishes)",
               "breakers": "(draw, wishes, habit)", "broken": "(draw, wishes, habit, people)"},
    "budgets": {"most_holds": "(draw, liars, plan)", "worth_within": "(draw, liars, wish, budget, *, stake=0)",
                "plan_within": "(draw, liars, wish, budget, *, stake=0)", "worths_within": "(draw, liars, wish, *, stake=0)",
                "least_budget": "(draw, liars, wish, goal, *, stake=0)", "table_within": "(draw, liars, wish, budget, *, stake=0)",
                "is_table_within": "(draw, liars, wish, budget, value, *, stake=0)"},
    "mixtures": {"mixture_score": "(draw, liars, mixture, wish)", "mixture": "(draw, liars, wish, mean)",
                 "worth_in_mean": "(draw, liars, wish, mean)"},
    "seasons": {"season_worth": "(season, liars, budget, *, stake=0)", "season_plans": "(season, liars, budget, *, stake=0)",
                "season_score": "(season, liars, budget, plans, *, stake=0)", "joined": "(season)",
                "split": "(season, liars, budget, *, stake=0)"},
}
METHODS = {"path": "(self)", "out": "(self)", "waiting": "(self)", "held": "(self)", "end": "(self)", "known": "(self)",
           "give": "(self, person, number)", "hold": "(self, person)", "close": "(self)", "undo": "(self)", "trial": "(self)",
           "tried": "(self, work)", "worth": "(self, liars, wish, *, stake=0)", "follow": "(self, liars, plan, numbers)"}


def parts():
    """The examples of each section that is there: tuples (files, list of tuples (code, what is told of it))."""
    found = []
    for line in EXAMPLES.read_text().splitlines():
        if line.startswith("## "):
            found.append((line.split()[1:], []))
        elif line.startswith(">>> "):
            found[-1][1].append([line[4:], None])
        else:
            found[-1][1][-1][1] = line
    return found


class InterfaceTest(unittest.TestCase):
    def test_examples(self):
        names = {}
        for files, examples in parts():
            self.assertTrue(files and examples)
            for code, due in examples:
                self.check(names, code, due)

    def check(self, names, code, due):
        if due is None:
            exec(code, names)
        elif due.startswith("raises "):
            word, given = due.removeprefix("raises ").removesuffix(")").split("(")
            with self.assertRaises(getattr(errors, word), msg=code) as caught:
                eval(code, names)
            self.assertEqual(list(vars(caught.exception).values()), [eval(given)], code)
        else:
            self.assertEqual(eval(code, names), eval(due), code)

    def test_readme(self):
        names = {}
        text = (Path(__file__).resolve().parent.parent / "README.md").read_text()
        blocks = re.findall("```python\n(.*?)```", text, re.S)
        for block in blocks:
            exec(block, names)
        self.assertGreater(len(blocks), 3)
        self.assertEqual([names["bias"].text(), names["price"].text(), len(names["mixed"])], ["3/4", "5", 2])

    def test_functions(self):
        for name, functions in SIGNATURES.items():
            module = import_module("jointdraws." + name)
            for word, arguments in functions.items():
                made = getattr(module, word)
                self.assertEqual((made.__module__, str(inspect.signature(made))), (module.__name__, arguments), word)

    def test_live(self):
        self.assertEqual(str(inspect.signature(Live)), "(draw)")
        self.assertIsInstance(vars(Live)["now"], property)
        self.assertIn("__len__", vars(Live))
        for word, arguments in METHODS.items():
            self.assertEqual(str(inspect.signature(vars(Live)[word])), arguments, word)


if __name__ == "__main__":
    unittest.main()
