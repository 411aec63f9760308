import inspect
import random
import unittest

from jointdraws.draws import End, Round, read_draw
from jointdraws.errors import BadLiars, BadPlan, BadStake, BadWish, TooMany
from jointdraws.honest import chance, honest_shares
from jointdraws.plans import count_plans, held_mean, is_plan, plan_shares, plans, runs, score
from jointdraws.ratios import Ratio
from tests.brute import (
    all_plans, all_runs, count_of, outcome, random_draw, random_wish, sets_of, small_games)
from tests.samples import (
    FAIR, UNLIKE_TEXT, assert_raises, fraction, many_draws, unlike, wrong_amounts, wrong_lists, wrong_values, wrong_wishes)

SLY = (((1,), (), ()), ((1,), ("bob",), ()))


def ladder(person, many):
    """A draw of turns of one person with so many whole paths, all to different places."""
    if many == 1:
        return End("no")
    parts = [many // 4 + (1 if at < many % 4 else 0) for at in range(4)]
    parts = [part for part in parts if part] if many >= 2 else [1]
    shares = [Ratio(1, len(parts))] * len(parts)
    return Round("open", [(person, shares, 0)], [ladder(person, part) for part in parts])


def multiplied(*counts):
    """A draw that has as many plans for ann as the product of the counts."""
    shares = [Ratio(1, len(counts))] * len(counts)
    return Round("sealed", [("cid", shares, 0)], [ladder("ann", count) for count in counts])


class CountTest(unittest.TestCase):
    def test_small_draws(self):
        for draw, liars in small_games(11, 120):
            self.assertEqual(count_plans(draw=draw, liars=liars), len(all_plans(draw, liars)), (draw.text(), liars))
            self.assertIs(type(count_plans(draw, liars)), int)

    def test_large_draws(self):
        for draw in many_draws():
            if len(draw.people()) <= 6:
                for liars in sets_of(draw.people()):
                    self.assertEqual(count_plans(draw, liars), count_of(draw, liars))

    def test_nobody_and_ends(self):
        self.assertEqual([count_plans(End("no"), []), count_plans(End("no"), ())], [1, 1])
        for draw in many_draws():
            self.assertEqual(count_plans(draw, []), 1)

    def test_each_kind_of_round(self):
        # Two numbers of ann, and two of bob, who is honest; in held and last rounds ann holds back or does not.
        text = "%s(ann 1/2 1/2 *0, bob 1/2 1/2 *0; a, b, c, d)"
        told = [count_plans(read_draw(text % kind), ["ann"]) for kind in ("open", "sealed", "held", "last")]
        self.assertEqual(told, [4, 2, 8, 8])
        told = [count_plans(read_draw(text % kind), ["ann", "bob"]) for kind in ("open", "sealed", "held", "last")]
        self.assertEqual(told, [4, 4, 16, 16])

    def test_out_stays_out(self):
        later = "held(ann 1/2 1/2 *0; a, b)"
        text = "%s(ann 1/2 1/2 *1; " + later + ", " + later + ")"
        # In a held round what comes then has four plans in any case; behind a last one it has one for who is out.
        self.assertEqual(count_plans(read_draw(text % "held"), ["ann"]), 16)
        self.assertEqual(count_plans(read_draw(text % "last"), ["ann"]), 10)

    def test_order_of_liars_does_not_matter(self):
        for draw, liars in small_games(12, 40):
            for told in (liars[::-1], tuple(liars), sorted(liars)):
                self.assertEqual(count_plans(draw, told), count_plans(draw, liars))
                self.assertEqual(list(plans(draw, told)), list(plans(draw, liars)))


class PlansTest(unittest.TestCase):
    def test_all_of_small_draws_in_order(self):
        for draw, liars in small_games(13, 120):
            told = list(plans(draw=draw, liars=liars))
            self.assertEqual(told, sorted(all_plans(draw, liars)), (draw.text(), liars))
            self.assertEqual(len(set(told)), len(told))

    def test_it_is_a_generator_that_raises_late(self):
        self.assertTrue(inspect.isgenerator(plans(unlike(), ["bob"])))
        told = plans(unlike(), ["eve"])
        with self.assertRaises(BadLiars):
            next(told)
        told = plans(multiplied(3, 23, 29), ["ann"])
        with self.assertRaises(TooMany) as caught:
            next(told)
        self.assertEqual([caught.exception.count, type(caught.exception.count)], [2001, int])

    def test_limit(self):
        draw = multiplied(40, 50)
        self.assertEqual(count_plans(draw, ["ann"]), 2000)
        told = list(plans(draw, ["ann"]))
        self.assertEqual([len(told), told == sorted(told), len(set(told))], [2000, True, 2000])
        for counts in ((3, 23, 29), (60, 60, 60, 60)):
            many = multiplied(*counts)
            with self.assertRaises(TooMany) as caught:
                list(plans(many, ["ann"]))
            self.assertEqual(caught.exception.count, count_plans(many, ["ann"]))

    def test_bad_liars_come_first(self):
        many = multiplied(60, 60)
        for value in wrong_lists(many.people()):
            assert_raises(self, BadLiars, "given", value, lambda: list(plans(many, value)))


class IsPlanTest(unittest.TestCase):
    def test_all_plans_are(self):
        for draw, liars in small_games(14, 60, most=80):
            for plan in plans(draw, liars):
                self.assertIs(is_plan(draw=draw, liars=liars, value=plan), True)

    def test_plans_of_others_are_not(self):
        games = small_games(15, 60, most=80)
        for (draw, liars), (other, _) in zip(games, games[1:]):
            told = set(plans(draw, liars))
            for liars_there in sets_of(other.people()):
                if count_of(other, liars_there) <= 80:
                    for plan in plans(other, liars_there):
                        self.assertIs(is_plan(draw, liars, plan), plan in told)

    def test_other_values(self):
        one, two = SLY
        wrong = [
            [one, two], (one,), (one, two, one), ([(1,), (), ()], two), (one, ((1,), ["bob"], ())), (((1,), (), []), two),
            (((1,), (), ((),)), two), (((1,), ()), two), (((1,), (), (), ()), two), (((0,), (), ()), two),
            (((True,), (), ()), ((True,), ("bob",), ())), (((Ratio(1),), (), ()), ((Ratio(1),), ("bob",), ())),
            (((2,), (), ()), ((2,), (), ())), (((-1,), (), ()), ((-1,), (), ())), (([1], (), ()), ([1], ("bob",), ())),
            ((1, (), ()), (1, ("bob",), ())), (((1, 1), (), ()), ((1, 1), (), ())), (((), (), ()), ((), (), ())),
            (one, ((1,), ("ann",), ())), (one, ((1,), ("bob", "bob"), ())), (one, ((1,), "bob", ())), (one, ((1,), None, ())),
            (one, ((1,), ("bob",), None)), (one, ((1,), ("bob",), 0)), (one, None), (None, two), (one, ()), {0: one, 1: two},
            (((1,), (), ()), ((1,), ("bob", "eve"), ())), (one, ((1,), (1,), ())), (one, ((1,), (["bob"],), ())), (one, two, ()),
        ]
        self.assertIs(is_plan(unlike(), ["bob"], SLY), True)
        for value in wrong + wrong_values():
            self.assertIs(is_plan(unlike(), ["bob"], value), False, value)
            assert_raises(self, BadPlan, "given", value, lambda: runs(unlike(), ["bob"], value))
            assert_raises(self, BadPlan, "given", value, lambda: plan_shares(unlike(), ["bob"], value))
            assert_raises(self, BadPlan, "given", value, lambda: held_mean(unlike(), ["bob"], value))
            assert_raises(self, BadPlan, "given", value, lambda: score(unlike(), ["bob"], value, {}, stake=-1))

    def test_ends(self):
        self.assertIs(is_plan(End("no"), [], ()), True)
        # Equal parts for the same draw, of which only one is made of integers.
        twice = read_draw("open(cid 1/2 1/2 *0; held(ann 1/2 1/2 *0; no, yes), held(ann 1/2 1/2 *0; no, yes))")
        good = (((1,), (), ()),)
        self.assertIs(is_plan(twice, ["ann"], (((), (), good), ((), (), good))), True)
        for wrong in ((((True,), (), ()),), (((Ratio(1),), (), ()),)):
            self.assertIs(is_plan(twice, ["ann"], (((), (), good), ((), (), wrong))), False)
            self.assertIs(is_plan(twice, ["ann"], (((), (), wrong), ((), (), good))), False)
        for value in wrong_values():
            self.assertIs(is_plan(End("no"), (), value), value == () and isinstance(value, tuple))

    def test_names_of_those_who_hold_back_ascend(self):
        draw = read_draw(UNLIKE_TEXT)
        self.assertIs(is_plan(draw, ["bob", "ann"], (((1, 1), ("ann", "bob"), ()),)), True)
        self.assertIs(is_plan(draw, ["bob", "ann"], (((1, 1), ("bob", "ann"), ()),)), False)

    def test_numbers_are_in_the_order_of_the_givers(self):
        draw = read_draw("open(bob 1/3 1/3 1/3 *0, ann 1/2 1/2 *0; a, b, a, b, a, b)")
        self.assertIs(is_plan(draw, ["ann", "bob"], (((2, 1), (), ()),)), True)
        self.assertIs(is_plan(draw, ["ann", "bob"], (((1, 2), (), ()),)), False)

    def test_open_and_sealed(self):
        text = "%s(ann 1/2 1/2 *0, bob 1/2 1/2 *1; a, b, c, d)"
        unlike_items = (((0,), (), ()), ((1,), (), ()))
        like_items = (((1,), (), ()), ((1,), (), ()))
        holding = (((1,), (), ()), ((1,), ("ann",), ()))
        for kind, told in (("open", [True, True, False]), ("sealed", [False, True, False]),
                           ("held", [False, True, True]), ("last", [False, True, True])):
            draw = read_draw(text % kind)
            self.assertEqual([is_plan(draw, ["ann"], plan) for plan in (unlike_items, like_items, holding)], told)

    def test_who_is_out_has_no_choice(self):
        draw = read_draw("last(ann 1/2 1/2 *1, bob 1/2 1/2 *0; a, b, a, held(ann 1/2 1/2 *0, bob 1/2 1/2 *1; a, b, c, d))")
        then = (((), (), ()), ((), (), ()))
        plan = (((0,), (), ()), ((0,), ("ann",), then))
        self.assertIs(is_plan(draw, ["ann"], plan), True)
        self.assertIs(is_plan(draw, ["ann"], (((0,), (), ()), ((0,), ("ann",), (((0,), (), ()), ((0,), (), ()))))), False)
        self.assertIs(is_plan(draw, ["ann"], (((1,), (), ()), ((1,), (), (((0,), (), ()), ((0,), (), ()))))), True)
        self.assertIs(is_plan(draw, ["ann"], (((1,), (), ()), ((1,), (), then))), False)
        # The stand-in of the later round counts: 0 for ann.
        self.assertEqual([(path, held) for path, held, _ in runs(draw, ["ann"], plan)],
                         [(((0, 0),), 0), (((1, 1), (0, 0)), 1), (((1, 1), (0, 1)), 1)])


class RunsTest(unittest.TestCase):
    def test_small_draws(self):
        source = random.Random(16)
        for draw, liars in small_games(16, 80):
            told = list(plans(draw, liars))
            for plan in source.sample(told, min(4, len(told))):
                got = runs(draw=draw, liars=liars, plan=plan)
                self.assertEqual([(path, held, fraction(part)) for path, held, part in got],
                                 [(path, held, part) for path, _, held, part in all_runs(draw, liars, plan)])
                self.assertEqual({(type(run), type(run[0]), type(run[1]), type(run[2])) for run in got}, {(tuple, tuple, int, Ratio)})
                self.assertEqual(sum(fraction(part) for _, _, part in got), 1)
                self.assertTrue({path for path, _, _ in got} <= set(draw.paths()))

    def test_nobody_lies(self):
        for draw in many_draws():
            plan = next(plans(draw, []))
            got = runs(draw, [], plan)
            self.assertEqual([path for path, _, _ in got], draw.paths())
            self.assertEqual(got, [(path, 0, chance(draw, path)) for path in draw.paths()])

    def test_all_lie(self):
        draw = read_draw(UNLIKE_TEXT)
        for plan in plans(draw, ["ann", "bob"]):
            (path, held, part), = runs(draw, ["ann", "bob"], plan)
            self.assertEqual([len(path), held, part], [1, len(plan[0][1]), 1])

    def test_an_end(self):
        self.assertEqual(runs(End("no"), [], ()), [((), 0, 1)])
        self.assertIs(type(runs(End("no"), [], ())[0][2]), Ratio)

    def test_stand_in_that_is_the_number_is_a_hold_too(self):
        draw = read_draw(UNLIKE_TEXT)
        plan = (((0,), ("bob",), ()), ((0,), (), ()))
        self.assertEqual([(path, held) for path, held, _ in runs(draw, ["bob"], plan)], [(((0, 0),), 1), (((1, 0),), 0)])
        self.assertEqual(held_mean(draw, ["bob"], plan), Ratio(1, 2))


class ScoresTest(unittest.TestCase):
    def test_small_draws(self):
        source = random.Random(17)
        for draw, liars in small_games(17, 80):
            told = list(plans(draw, liars))
            for plan in source.sample(told, min(4, len(told))):
                shares, held = outcome(draw, liars, plan)
                got = plan_shares(draw=draw, liars=liars, plan=plan)
                self.assertEqual([(name, fraction(got[name])) for name in got], list(shares.items()))
                self.assertEqual({type(part) for part in got.values()}, {Ratio})
                self.assertEqual(fraction(held_mean(draw=draw, liars=liars, plan=plan)), held)
                self.assertIs(type(held_mean(draw, liars, plan)), Ratio)
                wish, stake = random_wish(source, draw), source.choice([0, 1, Ratio(1, 3), 10 ** 99])
                mean = sum(fraction(wish[name]) * part for name, part in shares.items())
                got = score(draw=draw, liars=liars, plan=plan, wish=wish, stake=stake)
                self.assertEqual([fraction(got), type(got)], [mean - held * fraction(stake), Ratio])
                self.assertEqual(fraction(score(draw, liars, plan, wish)), mean)

    def test_names_that_do_not_come(self):
        draw = read_draw("open(ann 1/2 1/2 *0; no, yes)")
        got = plan_shares(draw, ["ann"], (((1,), (), ()),))
        self.assertEqual(list(got.items()), [("no", 0), ("yes", 1)])

    def test_nobody_lies(self):
        for draw in many_draws():
            plan = next(plans(draw, ()))
            self.assertEqual(plan_shares(draw, (), plan), honest_shares(draw))
            self.assertEqual(held_mean(draw, (), plan), 0)

    def test_an_end(self):
        self.assertEqual(plan_shares(End("no"), [], ()), {"no": 1})
        self.assertEqual([score(End("no"), [], (), {"no": -3}, stake=7), held_mean(End("no"), [], ())], [-3, 0])

    def test_stake_stands_behind_the_star(self):
        with self.assertRaises(TypeError):
            score(unlike(), ["bob"], SLY, {"no": 0, "yes": 1}, 1)


class ErrorsTest(unittest.TestCase):
    def test_bad_liars(self):
        for draw in (unlike(), End("no"), read_draw("open(ann 1/2 1/2 *0; a, b)")):
            for value in wrong_lists(draw.people()):
                for call in (lambda: count_plans(draw, value), lambda: list(plans(draw, value)), lambda: is_plan(draw, value, None),
                             lambda: runs(draw, value, None), lambda: plan_shares(draw, value, [()]),
                             lambda: held_mean(draw, value, {}), lambda: score(draw, value, 1, 2, stake=-3)):
                    assert_raises(self, BadLiars, "given", value, call)

    def test_order_of_the_errors_of_scores(self):
        for plan in ([], None, (1,)):
            assert_raises(self, BadPlan, "given", plan, lambda: score(unlike(), ["bob"], plan, None, stake=None))
        for wish in wrong_wishes(["no", "yes"]):
            assert_raises(self, BadWish, "given", wish, lambda: score(unlike(), ["bob"], SLY, wish, stake=-1))
        for stake in wrong_amounts():
            assert_raises(self, BadStake, "given", stake, lambda: score(unlike(), ["bob"], SLY, {"no": 0, "yes": 1}, stake=stake))

    def test_nothing_changes(self):
        draw, liars, wish = unlike(), ["bob"], {"yes": 1, "no": 0}
        text = draw.text()
        told = [count_plans(draw, liars), runs(draw, liars, SLY), plan_shares(draw, liars, SLY), score(draw, liars, SLY, wish, stake=1)]
        told[1].clear()
        told[2]["no"] = 9
        for call in (lambda: score(draw, liars, SLY, wish, stake=-1), lambda: runs(draw, liars, [liars])):
            self.assertRaises(ValueError, call)
        self.assertEqual([draw.text(), liars, list(wish.items())], [text, ["bob"], [("yes", 1), ("no", 0)]])
        self.assertEqual(runs(draw, liars, SLY), [(((0, 1),), 0, Ratio(1, 2)), (((1, 0),), 1, Ratio(1, 2))])
        self.assertEqual(plan_shares(draw, liars, SLY), {"no": 0, "yes": 1})

    def test_deep_draws(self):
        draw, plan = End("yes"), ()
        for step in range(250):
            draw = Round("last" if step % 2 else "open", [("abc"[step % 3], FAIR, 0)], [End("no"), draw])
            plan = tuple([((1,), (), plan)]) if step % 3 == 0 else (((), (), ()), ((), (), plan))
        self.assertIs(is_plan(draw, ["a"], plan), True)
        self.assertEqual(plan_shares(draw, ["a"], plan)["yes"], Ratio(1, 2 ** 166))
        self.assertEqual(len(runs(draw, ["a"], plan)), 167)
        # Each open round has one plan more than what comes then, each last one three more.
        self.assertEqual(count_plans(draw, ["a", "b", "c"]), 1 + 125 + 3 * 125)


class LargeTest(unittest.TestCase):
    def test_numbers_at_the_limit(self):
        shares = [Ratio(1, 10 ** 100 - 1), Ratio(10 ** 100 - 2, 10 ** 100 - 1)]
        draw = Round("held", [("ann", shares, 0), ("bob", shares, 1)], [End("a"), End("b"), End("b"), End("a")])
        for plan in plans(draw, ["ann"]):
            got = score(draw, ["ann"], plan, {"a": 10 ** 99, "b": Ratio(1, 10 ** 99)}, stake=Ratio(1, 7))
            shares, held = outcome(draw, ["ann"], plan)
            self.assertEqual(fraction(got), shares["a"] * 10 ** 99 + shares["b"] / 10 ** 99 - held / 7)

    def test_random_large_draws(self):
        source = random.Random(18)
        for _ in range(12):
            draw = random_draw(source, 3, ["a", "b", "c", "d", "e"], most=3)
            if len(draw.people()) and len(draw) <= 256:
                for liars in sets_of(draw.people()):
                    self.assertEqual(count_plans(draw, liars), count_of(draw, liars))


if __name__ == "__main__":
    unittest.main()
