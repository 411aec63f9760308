import unittest

from jointdraws import errors
from jointdraws.draws import End, Round, read_draw
from jointdraws.errors import DrawError
from jointdraws.ratios import Ratio, as_ratio
from tests.samples import wrong_values

LISTED = {
    "ByZero": [], "BadNumber": ["given"], "BadText": ["given"], "BadName": ["given"], "BadKind": ["given"],
    "BadGivers": ["given"], "Twice": ["person"], "BadShares": ["given"], "BadStandIn": ["given"],
    "BadDraws": ["given"], "TooMany": ["count"], "BadPath": ["given"], "BadWish": ["given"], "BadStake": ["given"],
    "NoEnd": ["given"], "NoPerson": ["given"], "BadLiars": ["given"], "BadPlan": ["given"], "BadCount": ["given"],
    "BadCorner": ["given"], "BadFamily": ["given"], "BadBounds": ["given"], "BadPrices": ["given"],
    "BadNames": ["given"], "NotTurns": [], "UnlikeEnds": [], "NotNow": ["given"], "NothingToUndo": [],
    "BadBudget": ["given"], "BadMixture": ["given"], "BadSeason": ["given"], "BadPlans": ["given"],
    "BadGuard": ["given"], "BadWishes": ["given"], "BadHabit": ["given"],
}


class ErrorsTest(unittest.TestCase):
    def test_all_are_there_and_directly_beneath(self):
        self.assertEqual(DrawError.__bases__, (ValueError,))
        beneath = {name: each for name, each in vars(errors).items() if isinstance(each, type)}
        del beneath["DrawError"]
        self.assertEqual(sorted(beneath), sorted(LISTED))
        for name, each in beneath.items():
            self.assertEqual(each.__bases__, (DrawError,), name)
            self.assertEqual(each.__module__, "jointdraws.errors")

    def test_keep_the_very_values(self):
        for name, attributes in LISTED.items():
            made = getattr(errors, name)
            if not attributes:
                self.assertEqual(vars(made()), {})
            for attribute in attributes:
                for value in wrong_values():
                    self.assertIs(getattr(made(value), attribute), value)
                    self.assertIs(getattr(made(**{attribute: value}), attribute), value)

    def test_no_more_and_no_fewer_arguments(self):
        for name, attributes in LISTED.items():
            if attributes:
                with self.assertRaises(TypeError):
                    getattr(errors, name)()
                with self.assertRaises(TypeError):
                    getattr(errors, name)(1, 2)

    def test_can_be_raised_and_caught_as_values_errors(self):
        for name, attributes in LISTED.items():
            with self.assertRaises(ValueError) as caught:
                raise getattr(errors, name)(*[[1, None] for _ in attributes])
            self.assertIsInstance(caught.exception, DrawError)
            self.assertIsInstance(str(caught.exception), str)

    def test_the_program_raises_them_as_values_errors(self):
        calls = [lambda: Ratio(1, 0), lambda: as_ratio("1"), lambda: End(None), lambda: read_draw(7),
                 lambda: Round([], [], [])]
        for call in calls:
            with self.assertRaises(ValueError) as caught:
                call()
            self.assertIsInstance(caught.exception, DrawError)


if __name__ == "__main__":
    unittest.main()
