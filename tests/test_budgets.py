import random
import unittest

from jointdraws.budgets import (
    is_table_within, least_budget, most_holds, plan_within, table_within, worth_within, worths_within)
from jointdraws.built import of_kind, repeated, replaced
from jointdraws.draws import End, Round, read_draw
from jointdraws.errors import BadBudget, BadLiars, BadNumber, BadPlan, BadStake, BadWish
from jointdraws.plans import is_plan, plans, score
from jointdraws.ratios import Ratio
from jointdraws.worths import best_plan, table, worth
from tests.brute import all_plans, random_wish, small_games
from tests.purses import all_purses, best_left, by_wish, most_of, plans_within, score_of
from tests.samples import (
    FAIR, MIXED_TEXT, assert_raises, fraction, is_number, unlike, wrong_amounts, wrong_lists, wrong_values, wrong_wishes)

WIN = {"no": 0, "yes": 1}


def wrong_budgets():
    wrong = [-1, 31, 10 ** 90, True, False, Ratio(1), Ratio(0), "1", [1], (2,), {1: 1}]
    return [value for value in wrong + wrong_values() if type(value) is not int or not 0 <= value <= 30]


def held_games(seed, many, most=200):
    """Small draws with liars who can hold back."""
    return small_games(seed, many, most=most, kinds=["held", "last", "last", "open"])


class WorthsTest(unittest.TestCase):
    def test_all_plans(self):
        source = random.Random(161)
        for draw, liars in held_games(161, 40):
            wish, stake = random_wish(source, draw), source.choice([0, 0, 1, Ratio(1, 6)])
            told = [(most_of(draw, liars, plan), score_of(draw, liars, plan, wish, stake)) for plan in all_plans(draw, liars)]
            for budget in (0, 1, 2, 30):
                due = max(found for held, found in told if held <= budget)
                answer = worth_within(draw=draw, liars=liars, wish=wish, budget=budget, stake=stake)
                self.assertEqual(fraction(answer), due)
                self.assertIsInstance(answer, Ratio)
                plan = plan_within(draw=draw, liars=liars, wish=wish, budget=budget, stake=stake)
                self.assertIs(is_plan(draw, liars, plan), True)
                self.assertLessEqual(most_holds(draw=draw, liars=liars, plan=plan), budget)
                self.assertEqual(score(draw, liars, plan, wish, stake=stake), answer)
                self.assertEqual(plan_within(draw, tuple(liars[::-1]), wish, budget, stake=stake), plan)
            self.assertEqual(answer, worth(draw, liars, wish, stake=stake))

    def test_most_holds(self):
        for draw, liars in held_games(162, 25, most=60):
            for plan in plans(draw, liars):
                self.assertEqual(most_holds(draw, liars, plan), most_of(draw, liars, plan))
        self.assertEqual(most_holds(End("no"), [], ()), 0)

    def test_all_budgets(self):
        source = random.Random(163)
        longest = 0
        for draw, liars in held_games(163, 40) + [(repeated(unlike(), 3), ["bob"])]:
            wish, stake = random_wish(source, draw), source.choice([0, 0, 1, Ratio(1, 6)])
            told = worths_within(draw=draw, liars=liars, wish=wish, stake=stake)
            due = [worth_within(draw, liars, wish, budget, stake=stake) for budget in range(8)]
            self.assertEqual(told, due[:len(told)])
            self.assertTrue(all(one == told[-1] for one in due[len(told) - 1:]))
            self.assertTrue(len(told) == 1 or told[-2] != told[-1])
            self.assertEqual(told[-1], worth(draw, liars, wish, stake=stake))
            longest = max(longest, len(told))
            for goal in [told[0] - 1, told[-1] + Ratio(1, 1000), told[-1], told[0]] + told:
                least = [budget for budget, one in enumerate(told) if not one.below(goal)]
                self.assertEqual(least_budget(draw=draw, liars=liars, wish=wish, goal=goal, stake=stake), least[0] if least else None)
        self.assertGreater(longest, 2)

    def test_holds_that_are_of_use_together_only(self):
        draw = read_draw("held(ann 1/2 1/2 *0, bob 1/2 1/2 *0, cid 1/4 3/4 *1; no, no, no, no, no, no, no, yes)")
        both = of_kind(read_draw("held(ann 1/2 1/2 *0, cid 1/2 1/2 *1; maybe, held(ann 1/2 1/2 *0, cid 1/2 1/2 *1; no, no, no, maybe), no, no)"), "last")
        self.assertEqual([part.text() for part in worths_within(draw, ["ann"], WIN)], ["3/8"])
        wish = {"maybe": 1, "no": 0}
        self.assertEqual(worths_within(both, ["ann", "cid"], wish), [1])
        # One hold is of no use, two are.
        pair = read_draw("held(cid 1/2 1/2 *0, ann 1/2 1/2 *0, bob 1/2 1/2 *0; yes, no, no, no, no, no, no, yes)")
        told = worths_within(pair, ["ann", "bob"], WIN)
        self.assertEqual(([part.text() for part in told], least_budget(pair, ["ann", "bob"], WIN, 1)), (["1/2", "1/2", "1"], 2))
        self.assertEqual([least_budget(pair, ["ann", "bob"], WIN, goal) for goal in (0, Ratio(1, 2), Ratio(51, 100), 2)], [0, 0, 2, None])

    def test_more_holds_than_budgets(self):
        draw = End("yes")
        for _ in range(40):
            draw = Round("held", [("ann", FAIR, 0), ("bob", FAIR, 0)], [draw, End("no"), End("no"), draw])
        told = worths_within(draw, ["bob"], WIN)
        # With each hold more than one round more is won; there are budgets up to 30.
        self.assertEqual((len(told), told[0] == Ratio(1, 2 ** 40)), (31, True))
        self.assertEqual(told[30], worth_within(draw, ["bob"], WIN, 30))
        self.assertEqual([least_budget(draw, ["bob"], WIN, told[30]), least_budget(draw, ["bob"], WIN, 1)], [30, None])
        self.assertEqual(worth(draw, ["bob"], WIN), 1)
        wished = {"no": 0, "yes": 2 ** 40}
        self.assertEqual(worth_within(draw, ["bob"], wished, 1), 41)


    def test_more_holds_than_budgets_and_no_use_of_the_last_one(self):
        draw = End("yes")
        three = [("ann", FAIR, 0), ("bob", FAIR, 0), ("cid", FAIR, 0), ("dan", FAIR, 0)]
        for givers in [three] * 9 + [three[1:]] * 2:
            # All liars have to hold back if dan gives 1.
            rows = Round("held", givers, [End("no")] * 2 ** len(givers)).rows()
            won = [row for row in rows if len(set(row[:-1])) == 1 and row[0] != row[-1]]
            draw = Round("held", givers, [draw if row in won else End("no") for row in rows])
        told = worths_within(draw, ["ann", "bob", "cid"], WIN)
        # 29 is 3 * 9 + 2, and 31 is 3 * 9 + 2 * 2, but there is no way to need 30 holds.
        self.assertEqual(len(told), 30)
        self.assertEqual(worth_within(draw, ["ann", "bob", "cid"], WIN, 30), told[29])
        self.assertTrue(told[28].below(told[29]) and told[29].below(worth(draw, ["ann", "bob", "cid"], WIN)))


class TablesTest(unittest.TestCase):
    def test_all_purses(self):
        source = random.Random(164)
        for draw, liars in held_games(164, 25, most=150):
            wish, stake = random_wish(source, draw), source.choice([0, 1, Ratio(1, 6)])
            for budget in (0, 1, source.randrange(2, 31)):
                purses = all_purses(draw, liars, budget)
                told = table_within(draw=draw, liars=liars, wish=wish, budget=budget, stake=stake)
                self.assertEqual(sorted(told), sorted(purses))
                for (path, out, left), here in purses.items():
                    self.assertEqual(fraction(told[(path, out, left)]), best_left(here, liars, out, left, stake, by_wish(wish)))
                    self.assertIsInstance(told[(path, out, left)], Ratio)
                self.assertIs(is_table_within(draw=draw, liars=liars, wish=wish, budget=budget, value=told, stake=stake), True)
                purse = source.choice(sorted(told))
                wrong = [{**told, purse: told[purse] + 1}, {**told, purse: None}, {key: told[key] for key in told if key != purse},
                         {**told, (purse[0], purse[1], 31): 0}, list(told.items())]
                for value in wrong + wrong_values():
                    self.assertIs(is_table_within(draw, liars, wish, budget, value, stake=stake), False)
                whole = {key: told[key].top if told[key].bottom == 1 else told[key] for key in told}
                self.assertIs(is_table_within(draw, liars, wish, budget, whole, stake=stake), True)

    def test_without_limits(self):
        source = random.Random(165)
        for draw, liars in held_games(165, 15):
            wish = random_wish(source, draw)
            free = table(draw, liars, wish)
            for (path, out, left), number in table_within(draw, liars, wish, 30).items():
                if left >= 20:
                    self.assertEqual(number, free[(path, out)])
        self.assertEqual(table_within(End("no"), [], {"no": 3}, 7), {((), (), 7): 3})


class PlansTest(unittest.TestCase):
    def test_plans_of_all_budgets(self):
        for draw, liars in held_games(166, 15, most=80):
            for budget in range(3):
                due = sorted(plans_within(draw, liars, budget))
                told = sorted(plan for plan in plans(draw, liars) if most_holds(draw, liars, plan) <= budget)
                self.assertEqual(told, due)


class ErrorsTest(unittest.TestCase):
    def test_errors(self):
        draw = read_draw(MIXED_TEXT)
        people = ["ann", "bob", "cid"]
        with_budget = [worth_within, plan_within, table_within,
                       lambda draw, liars, wish, budget, **more: is_table_within(draw, liars, wish, budget, None, **more)]
        for ask in with_budget:
            for value in wrong_lists(people):
                assert_raises(self, BadLiars, "given", value, lambda: ask(draw, value, None, None, stake=None))
            for value in wrong_wishes(["no", "yes"]):
                assert_raises(self, BadWish, "given", value, lambda: ask(draw, ["ann"], value, None, stake=None))
            for value in wrong_budgets():
                assert_raises(self, BadBudget, "given", value, lambda: ask(draw, ["ann"], WIN, value, stake=None))
            for value in wrong_amounts():
                assert_raises(self, BadStake, "given", value, lambda: ask(draw, ["ann"], WIN, 30, stake=value))
        for value in wrong_lists(people):
            assert_raises(self, BadLiars, "given", value, lambda: worths_within(draw, value, None, stake=None))
            assert_raises(self, BadLiars, "given", value, lambda: least_budget(draw, value, None, None, stake=None))
            assert_raises(self, BadLiars, "given", value, lambda: most_holds(draw, value, None))
        for value in wrong_wishes(["no", "yes"]):
            assert_raises(self, BadWish, "given", value, lambda: worths_within(draw, [], value, stake=None))
            assert_raises(self, BadWish, "given", value, lambda: least_budget(draw, [], value, None, stake=None))
        for value in [value for value in wrong_values() if not is_number(value)]:
            assert_raises(self, BadNumber, "given", value, lambda: least_budget(draw, [], WIN, value, stake=None))
        for value in wrong_amounts():
            assert_raises(self, BadStake, "given", value, lambda: worths_within(draw, ["ann"], WIN, stake=value))
            assert_raises(self, BadStake, "given", value, lambda: least_budget(draw, ["ann"], WIN, -1, stake=value))
        good = best_plan(draw, ["ann"], WIN)
        for value in wrong_values() + [list(good), good + good, best_plan(draw, ["bob"], WIN)]:
            assert_raises(self, BadPlan, "given", value, lambda: most_holds(draw, ["ann"], value))

    def test_large_draws(self):
        draw = read_draw("held(ann 1/2 1/2 *0, bob 1/2 1/2 *0; a, b, a, a)")
        for _ in range(5):
            draw = replaced(draw, "a", draw)
        wish = {"a": 0, "b": 1}
        told = worths_within(draw, ["ann"], wish)
        self.assertEqual(told[-1], worth(draw, ["ann"], wish))
        self.assertIs(is_table_within(draw, ["ann"], wish, 3, {((), (), 3): told[0]}), False)

    def test_new_ones_on_each_call(self):
        wish = dict(WIN)
        first = worths_within(unlike(), ["bob"], wish)
        first.append(1)
        told = table_within(unlike(), ["bob"], wish, 1)
        told.clear()
        self.assertEqual((worths_within(unlike(), ["bob"], WIN), len(table_within(unlike(), ["bob"], WIN, 1)), wish), ([Ratio(1, 2), 1], 7, WIN))


if __name__ == "__main__":
    unittest.main()
