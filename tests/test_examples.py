"""The examples of the interface, as they stand there, and its names and arguments."""

import inspect
import unittest

from jointdraws import draws, honest, ratios
from jointdraws.draws import End, Round, read_draw
from jointdraws.errors import BadName, BadText
from jointdraws.honest import (
    chance, honest_mean, honest_shares, is_even, is_turns, numbers_back, numbers_given, told_back)
from jointdraws.ratios import Ratio, as_ratio, greatest, read_ratio, total
from tests.samples import assert_raises


class ExamplesTest(unittest.TestCase):
    def setUp(self):
        fair = [Ratio(1, 2), Ratio(1, 2)]
        self.unlike = Round("held", [("ann", fair, 0), ("bob", fair, 0)], [End("no"), End("yes"), End("yes"), End("no")])
        self.more = read_draw("open(cid 1/3 2/3 *1; yes, held(ann 1/2 1/2 *0; no, yes))")

    def test_ratios(self):
        half = Ratio(2, 4)
        self.assertEqual(
            [half.text(), (1 - half * 3).text(), str(half.over(Ratio(-1, 3))), half + half == 1, half.below(1), (-half).top],
            ['1/2', '-1/2', '-3/2', True, True, -1])
        self.assertEqual(
            [total([half, 2, read_ratio("-3/7")]).text(), greatest([0, half]).text(), as_ratio(5).bottom],
            ['29/14', '1/2', 1])
        assert_raises(self, BadText, "given", "2/4", lambda: read_ratio("2/4"))

    def test_draws(self):
        unlike, more = self.unlike, self.more
        self.assertEqual(
            [unlike.text(), unlike.ends(), unlike.people(), unlike.rows(), len(unlike), unlike.depth()],
            ['held(ann 1/2 1/2 *0, bob 1/2 1/2 *0; no, yes, yes, no)', ['no', 'yes'], ['ann', 'bob'],
             [(0, 0), (0, 1), (1, 0), (1, 1)], 4, 1])
        self.assertEqual(
            [more.paths(), more.at(((1,), (0,))).name, more.givers[0][1][0] == Ratio(1, 3), more.draws[0] == End("yes")],
            [[((0,),), ((1,), (0,)), ((1,), (1,))], 'no', True, True])
        assert_raises(self, BadName, "given", "Yes", lambda: End("Yes"))

    def test_text_of_the_points(self):
        text = "held(ann 1/2 1/2 *0, bob 1/3 2/3 *1; yes, no, no, open(cid 1/2 1/2 *0; yes, no))"
        self.assertEqual([len(read_draw(text)), read_draw(text).text()], [5, text])

    def test_honest(self):
        unlike, more = self.unlike, self.more
        self.assertEqual(
            [chance(more, ((1,), (0,))).text(), honest_shares(more)["yes"].text(), honest_mean(more, {"no": 0, "yes": 3}).text()],
            ['1/3', '2/3', '2'])
        self.assertEqual([(path, part.text()) for path, part in told_back(more, "yes")],
                         [(((0,),), '1/2'), (((1,), (1,)), '1/2')])
        self.assertEqual(
            [[part.text() for part in numbers_back(more, "cid", "yes")], is_turns(more), is_even(unlike), numbers_given(more)],
            [['1/2', '1/2'], False, True, {'ann': 1, 'cid': 1}])


class InterfaceTest(unittest.TestCase):
    def test_functions(self):
        listed = {
            ratios: {"as_ratio": "(value)", "read_ratio": "(text)", "total": "(numbers)", "greatest": "(numbers)",
                     "least": "(numbers)"},
            draws: {"read_draw": "(text)"},
            honest: {"chance": "(draw, path)", "honest_shares": "(draw)", "honest_mean": "(draw, wish)",
                     "told_back": "(draw, name)", "numbers_back": "(draw, person, name)", "is_turns": "(draw)",
                     "is_even": "(draw)", "numbers_given": "(draw)"},
        }
        for module, functions in listed.items():
            for name, arguments in functions.items():
                made = getattr(module, name)
                self.assertEqual(made.__module__, module.__name__)
                self.assertEqual(str(inspect.signature(made)), arguments, name)

    def test_classes(self):
        listed = {
            ratios.Ratio: {"over": "(self, number)", "below": "(self, number)", "text": "(self)"},
            draws.Draw: {"ends": "(self)", "people": "(self)", "rows": "(self)", "paths": "(self)", "depth": "(self)",
                         "at": "(self, path)", "text": "(self)"},
        }
        for made, methods in listed.items():
            for name, arguments in methods.items():
                self.assertEqual(str(inspect.signature(vars(made)[name])), arguments, name)
        self.assertEqual(str(inspect.signature(ratios.Ratio)), "(top, bottom=1)")
        self.assertEqual(str(inspect.signature(draws.End)), "(name)")
        self.assertEqual(str(inspect.signature(draws.Round)), "(kind, givers, draws)")
        self.assertEqual([draws.End.__bases__, draws.Round.__bases__], [(draws.Draw,), (draws.Draw,)])

    def test_properties_and_operators(self):
        listed = {ratios.Ratio: ["top", "bottom"], draws.End: ["name"], draws.Round: ["kind", "givers", "draws"]}
        for made, names in listed.items():
            for name in names:
                self.assertIsInstance(vars(made)[name], property)
        for name in ["__add__", "__radd__", "__sub__", "__rsub__", "__mul__", "__rmul__", "__neg__", "__eq__", "__str__"]:
            self.assertIn(name, vars(ratios.Ratio))
        for name in ["__eq__", "__len__"]:
            self.assertIn(name, vars(draws.Draw))


if __name__ == "__main__":
    unittest.main()
