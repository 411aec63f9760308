"""Draws that the package returned, in which the same draw stands many times over: far more paths than rounds."""

import random
import unittest
from fractions import Fraction

from jointdraws.budgets import most_holds, plan_within, worth_within
from jointdraws.built import lean, of_kind, repeated, replaced, with_ends, with_people
from jointdraws.cards import card
from jointdraws.corners import barring_wish, bounds_of, can_reach, corners, mix, parting_wish
from jointdraws.draws import End, Round, count_paths, read_draw
from jointdraws.errors import BadMixture, TooMany, Twice
from jointdraws.force import (
    alike_in_force, cheapest_force, forces, forcing_sets, is_strategy, parting_force, strategy)
from jointdraws.honest import (
    chance, honest_mean, honest_shares, is_even, is_turns, numbers_back, numbers_given, told_back)
from jointdraws.live import Live
from jointdraws.matters import matters, parts_of_gain, who_matters
from jointdraws.mixtures import mixture, mixture_score, worth_in_mean
from jointdraws.plans import count_plans, held_mean, is_plan, plan_shares, runs, score
from jointdraws.ratios import Ratio, total
from jointdraws.seasons import season_plans, season_score, season_worth
from jointdraws.stakes import higher_stake, least_stake, piece_plans, pieces, safe_stake, same_worths
from jointdraws.worths import best_plan, gain, greatest_worth, is_table, worth, worths
from tests.samples import FAIR, fraction

TIMES = 6
ROWS = 2 ** TIMES


def within_itself(text, name, times=TIMES):
    """A draw in the place of its own ends with a name, and this again, so many times."""
    draw = read_draw(text)
    for _ in range(times):
        draw = replaced(draw, name, draw)
    return draw


def turns():
    return within_itself("open(ann 1/4 1/4 1/4 1/4 *0; a, a, b, c)", "a")


def two_turns():
    return within_itself("open(ann 1/2 1/2 *0; b, open(bob 1/2 1/2 *1; a, a))", "a")


def held():
    return within_itself("held(ann 1/2 1/2 *0, bob 1/2 1/2 *0; a, b, a, b)", "a", 5)


class QuestionsTest(unittest.TestCase):
    def test_equal(self):
        draw = turns()
        self.assertEqual((draw.ends(), draw.people(), draw.depth()), (["a", "b", "c"], ["ann"], ROWS))
        self.assertEqual(count_paths(draw), 2 ** ROWS + 2 * (2 ** ROWS - 1))
        self.assertTrue(draw == turns())
        self.assertFalse(draw != turns())
        # The draws differ in what stands deepest, and in nothing else.
        self.assertFalse(draw == replaced(draw, "a", End("b")))
        self.assertFalse(with_ends(draw, {"a": "a", "b": "b", "c": "b"}) == with_ends(draw, {"a": "a", "b": "b", "c": "a"}))
        self.assertTrue(draw.at(((0,),) * (ROWS - 1)) == read_draw("open(ann 1/4 1/4 1/4 1/4 *0; a, a, b, c)"))
        self.assertEqual(draw.at(((1,),) * ROWS), End("a"))

    def test_equal_objects_and_equal_draws(self):
        # The same draw made of one object for equal draws, and of an object for each.
        draw = held()
        small = within_itself("held(ann 1/2 1/2 *0, bob 1/2 1/2 *0; a, b, a, b)", "a", 2)
        self.assertEqual(read_draw(small.text()), small)
        self.assertEqual(small, read_draw(small.text()))
        self.assertNotEqual(draw, small)
        one, other = End("x"), End("x")
        for at in range(40):
            one = Round("open", [("ann", FAIR, 0)], [one, one])
            other = Round("open", [("ann", FAIR, 0)], [other, Round(other.kind, other.givers, other.draws) if at else End("x")])
        self.assertTrue(one == other)
        self.assertFalse(Round("open", [("bob", FAIR, 0)], [one, other]) == Round("open", [("ann", FAIR, 0)], [other, one]))
        self.assertEqual(lean(one), End("x"))
        self.assertEqual(honest_shares(other)["x"], 1)


class HonestTest(unittest.TestCase):
    def test_honest_people(self):
        draw = turns()
        last, rest = Ratio(1, 2 ** ROWS), Ratio(2 ** ROWS - 1, 2 ** (ROWS + 1))
        self.assertEqual(honest_shares(draw), {"a": last, "b": rest, "c": rest})
        self.assertEqual(honest_mean(draw, {"a": 2 ** ROWS, "b": 0, "c": 0}), 1)
        self.assertEqual((is_turns(draw), is_even(draw), numbers_given(draw)), (True, False, {"ann": ROWS}))
        self.assertEqual(numbers_given(two_turns()), {"ann": ROWS, "bob": ROWS})
        self.assertEqual(chance(draw, ((0,),) * ROWS), Ratio(1, 4 ** ROWS))
        self.assertIs(is_even(with_ends(draw, {"a": "a", "b": "b", "c": "b"})), False)
        self.assertEqual(numbers_back(draw, "ann", "a"), [Ratio(1, 2), Ratio(1, 2), 0, 0])
        seen = numbers_back(draw, "ann", "b")
        self.assertEqual((seen[0] == seen[1], seen[3] == 0, total(seen) == 1), (True, True, True))
        self.assertEqual(seen[2], Ratio(1, 4).over(rest))

    def test_told_back_where_few_paths_lead_to_the_name(self):
        draw = End("rare")
        for _ in range(50):
            often = within_itself("open(ann 1/2 1/2 *0; a, a)", "a", 5)
            draw = Round("open", [("bob", FAIR, 0)], [often, draw])
        self.assertEqual(told_back(draw, "rare"), [(((1,),) * 50, 1)])
        self.assertEqual(numbers_back(draw, "bob", "rare"), [0, 1])

    def test_as_gone_through_path_by_path(self):
        draw = within_itself("sealed(ann 1/2 1/2 *0, bob 1/3 2/3 *0; a, b, c, open(bob 1/5 4/5 *0; a, a))", "a", 2)
        for name in draw.ends():
            told = [(path, chance(draw, path)) for path in draw.paths() if draw.at(path).name == name]
            whole = total([part for _, part in told])
            self.assertEqual(honest_shares(draw)[name], whole)
            self.assertEqual(told_back(draw, name), [(path, part.over(whole)) for path, part in told])
            for place, person in enumerate(["ann", "bob"]):
                due = [total([part.over(whole) for path, part in told if path[0][place] == number]) for number in (0, 1)]
                self.assertEqual(numbers_back(draw, person, name), due)


class LiarsTest(unittest.TestCase):
    WISH = {"a": 1, "b": 0, "c": 0}

    def test_worths(self):
        draw = turns()
        last = Ratio(1, 2 ** ROWS)
        self.assertEqual([worth(draw, ["ann"], self.WISH), worth(draw, [], self.WISH), gain(draw, ["ann"], self.WISH)], [1, last, 1 - last])
        self.assertEqual(worths(draw, self.WISH), {(): last, ("ann",): 1})
        self.assertEqual(greatest_worth(draw, self.WISH, 1), (Ratio(1), ("ann",)))
        plan = best_plan(draw, ["ann"], self.WISH)
        self.assertIs(is_plan(draw, ["ann"], plan), True)
        self.assertEqual([score(draw, ["ann"], plan, self.WISH), held_mean(draw, ["ann"], plan), len(runs(draw, ["ann"], plan))], [1, 0, 1])
        self.assertEqual(plan_shares(draw, ["ann"], plan)["a"], 1)
        self.assertIs(is_plan(draw, [], ()), False)
        self.assertEqual(count_plans(draw, ["ann"]), count_paths(draw))
        for value in ({}, {((), ()): 1}, {((), ()): 1, (((0,),), ()): 1}, None):
            self.assertIs(is_table(draw, ["ann"], self.WISH, value), False)

    def test_held(self):
        draw = held()
        wish = {"a": 1, "b": 0}
        # Who holds back has 0 for the number: bob alone decides, each time.
        self.assertEqual(worth(draw, ["bob"], wish), 1)
        self.assertEqual(worth(draw, ["ann"], wish), Ratio(1, 2 ** 32))
        self.assertEqual([who_matters(draw), matters(draw, "ann", ["bob"])], [["bob"], False])
        self.assertEqual(len(pieces(draw, ["bob"], wish)), 1)
        self.assertIsNone(least_stake(draw, ["bob"], wish))
        self.assertEqual(safe_stake(draw, 1)[1:], (("bob",), "a"))
        self.assertEqual(parts_of_gain(draw, wish)["ann"], 0)
        self.assertIs(same_worths(draw, of_kind(draw, "sealed"), ["bob"], wish), True)
        self.assertIsNone(higher_stake(draw, of_kind(draw, "open"), ["ann"], wish))

    def test_corners(self):
        draw = turns()
        self.assertEqual(len(corners(draw, ["ann"])), 3)
        self.assertEqual(bounds_of(draw, ["ann"], ["b"]), (Ratio(0), Ratio(1)))
        shares = {"a": Ratio(1, 2), "b": Ratio(1, 3), "c": Ratio(1, 6)}
        self.assertIs(can_reach(draw, ["ann"], shares), True)
        self.assertEqual(total([part for part, _ in mix(draw, ["ann"], shares)]), 1)
        self.assertEqual(worth(draw, [], barring_wish(draw, [], shares)).below(1), True)
        self.assertIsNone(parting_wish(draw, turns(), ["ann"]))


class PlansTest(unittest.TestCase):
    """Plans with far more items than different parts."""

    def draw(self):
        return within_itself("held(ann 1/2 1/2 *0, bob 1/3 2/3 *0; a, b, a, c)", "a", 5)

    def test_plans_of_the_package(self):
        draw = self.draw()
        wish = {"a": 1, "b": 0, "c": 2}
        for liars in ([], ["ann"], ["bob"], ["bob", "ann"]):
            for stake in (0, Ratio(1, 9)):
                plan = best_plan(draw, liars, wish, stake=stake)
                self.assertIs(is_plan(draw, liars, plan), True)
                self.assertEqual(score(draw, liars, plan, wish, stake=stake), worth(draw, liars, wish, stake=stake))
                self.assertEqual(score(draw, liars, plan, wish) - held_mean(draw, liars, plan) * stake, score(draw, liars, plan, wish, stake=stake))
            for (start, number, slope), plan in zip(pieces(draw, liars, wish), piece_plans(draw, liars, wish)):
                self.assertEqual([score(draw, liars, plan, wish, stake=start), -held_mean(draw, liars, plan)], [number, slope])
            for shares, plan in corners(draw, liars):
                self.assertEqual(tuple(plan_shares(draw, liars, plan).values()), shares)
            for budget in (0, 2, 30):
                plan = plan_within(draw, liars, wish, budget)
                self.assertLessEqual(most_holds(draw, liars, plan), budget)
                self.assertEqual(score(draw, liars, plan, wish), worth_within(draw, liars, wish, budget))
            mixed = mixture(draw, liars, wish, Ratio(1, 3))
            self.assertEqual(mixture_score(draw, liars, mixed, wish)[0], worth_in_mean(draw, liars, wish, Ratio(1, 3)))
            season = [(draw, wish), (read_draw("last(ann 1/2 1/2 *0, bob 1/2 1/2 *0; no, yes, yes, no)"), {"no": 0, "yes": 1})]
            told = season_plans(season, liars, 3)
            self.assertEqual(season_score(season, liars, 3, told), season_worth(season, liars, 3))

    def test_wrong_plans(self):
        draw = self.draw()
        plan = best_plan(draw, [], {"a": 1, "b": 0, "c": 2})
        for value in (plan + plan[:1], plan[:3], (plan[0], ((), (), plan)) + plan[2:], (plan[0], ((), ("bob",), plan[1][2])) + plan[2:],
                      plan[:3] + (((), (), None),), plan[:3] + (((1,), (), ()),)):
            self.assertIs(is_plan(draw, [], value), False)

    def test_different_plans_of_mixtures(self):
        draw = self.draw()
        plan = best_plan(draw, [], {"a": 1, "b": 0, "c": 2})
        mixed = [(Ratio(1, 2), plan), (Ratio(1, 2), best_plan(draw, [], {"a": 0, "b": 7, "c": 2}))]
        with self.assertRaises(BadMixture):
            mixture_score(draw, [], mixed, {"a": 1, "b": 0, "c": 2})

    def test_following_a_plan(self):
        draw = self.draw()
        live = Live(draw)
        live.follow(["bob"], best_plan(draw, ["bob"], {"a": 0, "b": 0, "c": 1}), [(0,)] * 31 + [(1,)])
        self.assertEqual((live.end(), len(live.path())), ("c", 32))


class ForceTest(unittest.TestCase):
    def test_force(self):
        draw = two_turns()
        self.assertIs(forces(draw, ["ann"], ["a"]), True)
        self.assertIs(forces(draw, ["bob"], ["a"]), False)
        self.assertEqual([forcing_sets(draw, ["a"]), forcing_sets(draw, ["b"])], [[("ann",)], [("ann",)]])
        self.assertEqual(cheapest_force(draw, ["a"], {"ann": 1, "bob": 0})[1], ("ann",))
        told = strategy(draw, ["ann"], ["b"])
        self.assertEqual(told, {(): 0})
        self.assertIs(is_strategy(draw, ["ann"], ["b"], told), True)
        self.assertIs(is_strategy(draw, ["ann"], ["a"], told), False)
        self.assertEqual(strategy(draw, [], ["a", "b"]), {})
        self.assertIs(is_strategy(draw, [], ["a", "b"], {}), True)
        self.assertIs(is_strategy(draw, [], ["a"], {}), False)
        self.assertIs(is_strategy(draw, ["bob"], ["a", "b"], {}), False)
        self.assertIs(alike_in_force(draw, with_people(draw, {"ann": "ann", "bob": "cid"})), True)
        self.assertEqual(len(parting_force(draw, with_people(draw, {"ann": "bob", "bob": "ann"}))), 2)


class MadeOfThemTest(unittest.TestCase):
    def test_made_of_them(self):
        draw = turns()
        self.assertEqual(of_kind(draw, "open"), draw)
        self.assertEqual(of_kind(of_kind(draw, "last"), "open"), draw)
        self.assertNotEqual(of_kind(draw, "held"), draw)
        self.assertEqual(lean(draw), draw)
        self.assertEqual(lean(with_ends(draw, {"a": "x", "b": "x", "c": "x"})), End("x"))
        self.assertEqual(with_people(draw, {"ann": "bob"}).people(), ["bob"])
        self.assertEqual(replaced(draw, "a", draw).depth(), 2 * ROWS)
        with self.assertRaises(TooMany) as caught:
            repeated(draw, 3)
        self.assertEqual(caught.exception.count, count_paths(draw) ** 3)
        with self.assertRaises(Twice) as caught:
            with_people(held(), {"ann": "eve", "bob": "eve"})
        self.assertEqual(caught.exception.person, "eve")

    def test_card(self):
        draw = with_ends(two_turns(), {"a": "yes", "b": "no"})
        told = card(draw, ["ann", "bob"])
        self.assertEqual(told[("ann",)], (Ratio(1), Ratio(1)))
        self.assertEqual(told[("bob",)][1], Ratio(1, 2 ** ROWS))


class ManyNamesTest(unittest.TestCase):
    def test_all_or_one_of_pairs(self):
        # Between two names of each pair the one chooses, and which pair it is the other one does.
        def pairs(first, second, order):
            draw = None
            for at in order:
                letter = "abcdefghijklmnopqrstuvwxyz"[at]
                pair = Round("open", [(second, FAIR, 0)], [End(letter + "x"), End(letter + "y")])
                draw = pair if draw is None else Round("open", [(first, FAIR, 0)], [draw, pair])
            return draw
        one, other = pairs("ann", "bob", range(26)), pairs("ann", "bob", range(26)[::-1])
        self.assertIsNone(parting_force(one, other))
        self.assertIs(alike_in_force(one, pairs("bob", "ann", range(26))), False)
        people, names = parting_force(one, pairs("bob", "ann", range(26)))
        self.assertNotEqual(forces(one, people, names), forces(pairs("bob", "ann", range(26)), people, names))
        self.assertEqual(list(names), sorted(set(names)))

    def test_small_ones(self):
        source = random.Random(85)
        names = ["a", "b", "c", "d", "e", "f"]

        def some(depth):
            if depth == 0:
                return End(source.choice(names))
            return Round("open", [(source.choice(["ann", "bob"]), FAIR, 0)], [some(depth - 1), some(depth - 1)])

        for _ in range(60):
            one, other = some(3), some(3)
            if one.ends() == other.ends():
                told = parting_force(one, other)
                sides = [(people, kept) for people in [(), ("ann",), ("bob",), ("ann", "bob")]
                         for kept in [tuple(name for at, name in enumerate(one.ends()) if bits >> at & 1) for bits in range(64)]]
                apart = [side for side in sides
                         if forces(one, [person for person in side[0] if person in one.people()], side[1])
                         != forces(other, [person for person in side[0] if person in other.people()], side[1])]
                self.assertEqual(told is None, apart == [])
                self.assertTrue(told is None or told in apart)


class FractionsTest(unittest.TestCase):
    def test_shares_of_long_chains(self):
        draw = End("no")
        due = Fraction(0)
        for at in range(300):
            part = Ratio(1, 2 + at % 3)
            draw = Round("sealed", [("ann", [part, 1 - part], 0)], [End("yes"), draw])
            due = fraction(part) + (1 - fraction(part)) * due
        self.assertEqual(fraction(honest_shares(draw)["yes"]), due)


if __name__ == "__main__":
    unittest.main()
