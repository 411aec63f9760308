import random
import unittest

from jointdraws.draws import End, Round, read_draw
from jointdraws.errors import BadLiars, BadMixture, BadNumber, BadWish
from jointdraws.mixtures import mixture, mixture_score, worth_in_mean
from jointdraws.plans import held_mean, is_plan, plans, score
from jointdraws.ratios import Ratio, total
from jointdraws.stakes import pieces
from jointdraws.worths import best_plan, worth
from tests.brute import outcomes, random_wish, small_games
from tests.samples import (
    FAIR, MIXED_TEXT, assert_raises, fraction, unlike, wrong_amounts, wrong_lists, wrong_values, wrong_wishes)

WIN = {"no": 0, "yes": 1}
SLY = (((1,), (), ()), ((1,), ("bob",), ()))
PLAIN = (((1,), (), ()), ((1,), (), ()))


def held_games(seed, many):
    return small_games(seed, many, most=150, kinds=["held", "last", "last", "sealed"])


def best_in_mean(draw, liars, wish, mean):
    """The greatest mean of the wish of mixtures of two plans with at most so many holds."""
    numbers = [fraction(wish[name]) for name in draw.ends()]
    points = {}
    for shares, held in outcomes(draw, liars):
        value = sum(part * number for part, number in zip(shares, numbers))
        points[held] = max(value, points.get(held, value))
    best = max(value for held, value in points.items() if held <= mean)
    for low in points:
        for high in points:
            if low <= mean < high:
                part = (mean - low) / (high - low)
                best = max(best, part * points[high] + (1 - part) * points[low])
    return best


class MixturesTest(unittest.TestCase):
    def test_all_plans(self):
        source = random.Random(164)
        twice = 0
        for draw, liars in held_games(164, 40):
            wish = random_wish(source, draw)
            for mean in (0, 5, Ratio(1, 4), Ratio(source.randrange(20), 10)):
                due = best_in_mean(draw, liars, wish, fraction(mean))
                told = worth_in_mean(draw=draw, liars=liars, wish=wish, mean=mean)
                self.assertEqual(fraction(told), due)
                self.assertIsInstance(told, Ratio)
                mixed = mixture(draw=draw, liars=liars, wish=wish, mean=mean)
                self.assertTrue(isinstance(mixed, list) and 1 <= len(mixed) <= 2)
                self.assertTrue(all(isinstance(item, tuple) and isinstance(item[0], Ratio) for item in mixed))
                self.assertTrue(all(is_plan(draw, liars, plan) for _, plan in mixed))
                got, held = mixture_score(draw=draw, liars=liars, mixture=mixed, wish=wish)
                self.assertEqual(got, told)
                self.assertLessEqual(fraction(held), fraction(mean))
                self.assertEqual(mixture(draw, tuple(liars[::-1]), wish, mean), mixed)
                twice += len(mixed) == 2
        self.assertGreater(twice, 10)

    def test_least_over_all_stakes(self):
        source = random.Random(165)
        for draw, liars in held_games(165, 25):
            wish = random_wish(source, draw)
            for mean in (0, Ratio(1, 3), Ratio(7, 5)):
                told = worth_in_mean(draw, liars, wish, mean)
                stakes = [start for start, _, _ in pieces(draw, liars, wish)] + [Ratio(source.randrange(50), 7) for _ in range(5)]
                bounds = [worth(draw, liars, wish, stake=stake) + stake * mean for stake in stakes]
                self.assertFalse(any(bound.below(told) for bound in bounds))
                self.assertTrue(any(bound == told for bound in bounds))

    def test_scores(self):
        source = random.Random(166)
        for draw, liars in held_games(166, 30):
            wish, all_plans = random_wish(source, draw), list(plans(draw, liars))
            some = source.sample(all_plans, min(len(all_plans), source.randrange(1, 5)))
            weights = [source.randrange(1, 5) for _ in some]
            mixed = [(Ratio(weight, sum(weights)), plan) for weight, plan in zip(weights, some)]
            due = (total([part * score(draw, liars, plan, wish) for part, plan in mixed]),
                   total([part * held_mean(draw, liars, plan) for part, plan in mixed]))
            told = mixture_score(draw, liars, mixed, wish)
            self.assertEqual(told, due)
            self.assertTrue(isinstance(told, tuple) and isinstance(told[0], Ratio) and isinstance(told[1], Ratio))
            self.assertEqual(mixture_score(draw, liars, tuple(mixed), wish), due)

    def test_edges(self):
        self.assertEqual([part for part, _ in mixture(unlike(), ["bob"], WIN, 0)], [1])
        self.assertEqual(mixture_score(unlike(), ["bob"], mixture(unlike(), ["bob"], WIN, 0), WIN), (Ratio(1, 2), 0))
        for mean in (Ratio(1, 2), 1, 10 ** 50):
            self.assertEqual(mixture(unlike(), ["bob"], WIN, mean), [(1, SLY)])
            self.assertEqual(worth_in_mean(unlike(), ["bob"], WIN, mean), 1)
        self.assertEqual([part for part, _ in mixture(unlike(), ["bob"], WIN, Ratio(1, 8))], [Ratio(1, 4), Ratio(3, 4)])
        self.assertEqual([mixture(End("no"), [], {"no": 2}, 1), worth_in_mean(End("no"), [], {"no": 2}, 0)], [[(1, ())], 2])
        # Wishes with which holds are of no use.
        self.assertEqual(mixture_score(unlike(), ["bob"], mixture(unlike(), ["bob"], {"no": 1, "yes": 1}, 3), WIN)[1], 0)


class ErrorsTest(unittest.TestCase):
    def test_mixtures(self):
        half = Ratio(1, 2)
        good = [(half, SLY), (half, PLAIN)]
        self.assertEqual(mixture_score(unlike(), ["bob"], good, WIN), (Ratio(3, 4), Ratio(1, 4)))
        self.assertEqual(mixture_score(unlike(), ["bob"], [(1, SLY)], WIN), (1, half))
        wrong = [[], (), [(half, SLY)], [(half, SLY), (half, SLY)], [(half, SLY), (half, tuple(list(SLY)))], [(1, SLY), (0, PLAIN)],
                 [(2, SLY), (-1, PLAIN)], [(True, SLY)], [("1", SLY)], [(None, SLY)], [(1, list(SLY))], [(1, ())], [(1, None)], [[1, SLY]],
                 [(1, SLY, 0)], [(1,)], {1: SLY}, (1, SLY), [(half, SLY), (half, (((True,), (), ()), ((1,), (), ())))],
                 [(half, SLY), (True, PLAIN)], [(half, SLY), ("1/2", PLAIN)], [(half, SLY), (half, PLAIN), (None, PLAIN)],
                 [(half, SLY), (Ratio(1, 3), PLAIN)], [(1, (((1,), (), ()), ((0,), ("bob",), ())))], [None], SLY, [(SLY, 1)]]
        for value in wrong + wrong_values():
            assert_raises(self, BadMixture, "given", value, lambda: mixture_score(unlike(), ["bob"], value, None))

    def test_deep_plans(self):
        draw = End("yes")
        for _ in range(700):
            draw = Round("held", [("ann", FAIR, 0)], [End("no"), draw])
        plan = best_plan(draw, ["ann"], WIN)
        other = best_plan(draw, ["ann"], {"no": 1, "yes": 0})
        self.assertEqual(mixture_score(draw, ["ann"], [(Ratio(1, 3), plan), (Ratio(2, 3), other)], WIN), (Ratio(1, 3), 0))
        again = best_plan(draw, ["ann"], WIN)
        value = [(Ratio(1, 3), plan), (Ratio(2, 3), again)]
        assert_raises(self, BadMixture, "given", value, lambda: mixture_score(draw, ["ann"], value, WIN))

    def test_errors(self):
        draw = read_draw(MIXED_TEXT)
        for value in wrong_lists(["ann", "bob", "cid"]):
            assert_raises(self, BadLiars, "given", value, lambda: mixture_score(draw, value, None, None))
            for ask in (mixture, worth_in_mean):
                assert_raises(self, BadLiars, "given", value, lambda: ask(draw, value, None, None))
        good = [(1, best_plan(draw, ["ann"], WIN))]
        for value in wrong_wishes(["no", "yes"]):
            assert_raises(self, BadWish, "given", value, lambda: mixture_score(draw, ["ann"], good, value))
            for ask in (mixture, worth_in_mean):
                assert_raises(self, BadWish, "given", value, lambda: ask(draw, ["ann"], value, None))
        for value in wrong_amounts():
            for ask in (mixture, worth_in_mean):
                assert_raises(self, BadNumber, "given", value, lambda: ask(draw, ["ann"], WIN, value))


if __name__ == "__main__":
    unittest.main()
