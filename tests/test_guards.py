import random
import unittest

from jointdraws.built import replaced
from jointdraws.draws import End, read_draw
from jointdraws.duels import duel, guards
from jointdraws.errors import BadGuard, BadLiars, BadStake, BadWish
from jointdraws.guards import is_guard, kept_to, made_sure
from jointdraws.ratios import Ratio
from tests.brute import random_wish
from tests.leagues import all_moments, least_by_guard, random_guard, score_of
from tests.samples import (
    MIXED_TEXT, assert_raises, fraction, unlike, wrong_amounts, wrong_lists, wrong_values, wrong_wishes)
from tests.test_duels import WIN, some_duels

LAST_TEXT = "last(ann 1/2 1/2 *0, bob 1/2 1/2 *1, cid 1/2 1/2 *0; no, yes, yes, no, no, yes, no, held(ann 1/3 1/3 1/3 *1; yes, no, yes))"


class MadeSureTest(unittest.TestCase):
    def test_as_gone_through(self):
        source = random.Random(144)
        for draw, first, second, wish, stake in some_duels(144, 40):
            told = duel(draw, first, second, wish, stake=stake)
            opposite = {name: -wish[name] for name in wish}
            mine, yours = random_guard(source, draw, first, second), random_guard(source, draw, second, first)
            self.assertIs(is_guard(draw=draw, first=first, second=second, value=mine), True)
            self.assertIs(is_guard(draw, second, first, yours), True)
            least = made_sure(draw=draw, first=first, second=second, wish=wish, guard=mine, stake=stake)
            most = kept_to(draw=draw, first=first, second=second, wish=wish, guard=yours, stake=stake)
            self.assertEqual(fraction(least), least_by_guard(draw, first, second, wish, stake, mine))
            self.assertEqual(fraction(most), -least_by_guard(draw, second, first, opposite, stake, yours))
            # The duel lies between the two, and what comes of both guards as well.
            score = score_of(draw, first, second, wish, stake, mine, yours)
            self.assertTrue(fraction(least) <= score <= fraction(most))
            self.assertFalse(told.below(least) or most.below(told))
            self.assertTrue(isinstance(least, Ratio) and isinstance(most, Ratio))

    def test_several_rounds(self):
        source = random.Random(147)
        for draw, first, second, wish, stake in list(some_duels(148, 25, depth=3, people=["ann", "bob", "cid"], most=1))[13:]:
            mine = random_guard(source, draw, first, second)
            self.assertEqual(fraction(made_sure(draw, first, second, wish, mine, stake=stake)),
                             least_by_guard(draw, first, second, wish, stake, mine))

    def test_nobody_in_a_league(self):
        for draw, first, _, wish, stake in some_duels(145, 15):
            told = duel(draw, first, [], wish, stake=stake)
            self.assertEqual(kept_to(draw, first, [], wish, {}, stake=stake), told)
            self.assertEqual(made_sure(draw, [], first, wish, {}, stake=stake), duel(draw, [], first, wish, stake=stake))
        self.assertEqual(made_sure(End("no"), [], [], {"no": 7}, {}), 7)

    def test_chances_as_integers_and_tuples(self):
        mine = {("give", (), (), ()): (((1,), 1),)}
        for row in ((0, 0), (0, 1), (1, 0), (1, 1)):
            mine[("hold", (), (), row)] = [((), Ratio(1, 4)), (("ann",), Ratio(3, 4))] if row == (1, 1) else (((), 1),)
        self.assertIs(is_guard(unlike(), ["ann"], ["bob"], mine), True)
        # Bob gives 1 and does not hold back: 3/4; he gives 1 and holds back: 1/4.
        self.assertEqual(made_sure(unlike(), ["ann"], ["bob"], WIN, mine), Ratio(1, 4))
        self.assertEqual(made_sure(unlike(), ["ann"], ["bob"], WIN, mine, stake=1), Ratio(3, 4) - Ratio(3, 4))

    def test_large_draws_where_a_league_has_nothing_to_do(self):
        draw = read_draw("open(ann 1/2 1/2 *0; no, yes)")
        for _ in range(5):
            draw = replaced(draw, "no", replaced(draw, "yes", draw))
        draw = replaced(read_draw("open(bob 1/2 1/2 *0; stop, go)"), "go", draw)
        wish = {"no": 0, "stop": 2, "yes": 1}
        self.assertEqual(duel(draw, ["bob"], ["ann"], wish), 2)
        guard = {("give", (), (), ()): [((0,), Ratio(1, 3)), ((1,), Ratio(2, 3))]}
        self.assertIs(is_guard(draw, ["bob"], ["ann"], guard), True)
        self.assertIs(is_guard(draw, ["ann"], ["bob"], guard), False)
        self.assertEqual(made_sure(draw, ["bob"], ["ann"], wish, guard), Ratio(2, 3))
        self.assertEqual(made_sure(draw, [], ["ann"], {"no": 0, "stop": 2, "yes": 1}, {}), 1)


class IsGuardTest(unittest.TestCase):
    def test_keys(self):
        for draw, first, second, wish, stake in some_duels(146, 25):
            mine, _ = guards(draw, first, second, wish, stake=stake)
            for moment in mine:
                self.assertIs(is_guard(draw, first, second, {key: mine[key] for key in mine if key != moment}), False)
                self.assertIs(is_guard(draw, first, second, {**mine, moment + (0,): mine[moment]}), False)
                self.assertIs(is_guard(draw, first, second, {**mine, ("keep",) + moment[1:]: mine[moment]}), False)
            self.assertIs(is_guard(draw, first, second, {**mine, "x": []}), False)
            for value in wrong_values():
                self.assertIs(is_guard(draw, first, second, value), value == {} and type(value) is dict and not mine)

    def test_moments(self):
        draw = read_draw(LAST_TEXT)
        guard = {moment: [(sorted(choices)[0], 1)] for moment, choices in all_moments(draw, ["ann", "cid"], ["bob"]).items()}
        self.assertIn(("hold", (), (), (1, 0, 1)), guard)
        self.assertIn(("give", ((1, 1, 1),), (), ()), guard)
        # Cid, who was out, has nothing to do there, and ann is a giver who still gives.
        self.assertIn(("give", ((1, 1, 1),), ("bob",), ()), guard)
        self.assertNotIn(("give", ((1, 1, 1),), ("ann",), ()), guard)
        self.assertIs(is_guard(draw, ["ann", "cid"], ["bob"], guard), True)
        self.assertIs(is_guard(draw, ["cid", "ann"], ("bob",), guard), True)
        self.assertIs(is_guard(draw, ["ann"], ["bob"], guard), False)
        self.assertIs(is_guard(draw, ["ann", "cid"], [], guard), False)

    def test_values(self):
        draw = read_draw(LAST_TEXT)
        source = random.Random(142)
        guard = random_guard(source, draw, ["ann", "cid"], ["bob"])
        half, give, hold = Ratio(1, 2), ("give", (), (), ()), ("hold", (), (), (1, 0, 1))
        good = [[((0, 1), 1)], (((0, 1), half), ((1, 0), half)), [((0, 0), Ratio(1, 3)), ((0, 1), Ratio(1, 3)), ((1, 1), Ratio(1, 3))]]
        for value in good:
            self.assertIs(is_guard(draw, ["ann", "cid"], ["bob"], {**guard, give: value}), True)
        wrong = [[], (), [((0, 1), 1), ((1, 1), 0)], [((0, 1), half)], [((1, 0), half), ((0, 1), half)], [((0, 1), half), ((0, 1), half)],
                 [((0, 1), 2), ((1, 0), -1)], [((0, 2), 1)], [((0,), 1)], [((0, 1, 0), 1)], [([0, 1], 1)], [((False, 1), 1)], [((Ratio(0), 1), 1)],
                 [((0, 1), True)], [((0, 1), None)], [((0, 1), "1")], [[(0, 1), 1]], [((0, 1), 1, 1)], [((0, 1),)], {(0, 1): 1}, [(("ann",), 1)],
                 [((), 1)], [(None, 1)], [((-1, 1), 1)], "x", 0]
        for value in wrong + wrong_values():
            self.assertIs(is_guard(draw, ["ann", "cid"], ["bob"], {**guard, give: value}), False)
        good = [[((), 1)], [(("ann", "cid"), 1)], [((), half), (("ann",), Ratio(1, 4)), (("ann", "cid"), Ratio(1, 8)), (("cid",), Ratio(1, 8))]]
        for value in good:
            self.assertIs(is_guard(draw, ["ann", "cid"], ["bob"], {**guard, hold: value}), True)
        wrong = [[], [(("cid", "ann"), 1)], [(("bob",), 1)], [(("ann", "ann"), 1)], [(["ann"], 1)], [((1, 1), 1)], [("ann", 1)], [((None,), 1)],
                 [(("ann",), half), ((), half)], [((), half), ((), half)], [((), half)], [((), 1), (("ann",), 0)], [((), True)], [(([],), 1)]]
        for value in wrong + wrong_values():
            self.assertIs(is_guard(draw, ["ann", "cid"], ["bob"], {**guard, hold: value}), False)

    def test_one_without_moments(self):
        self.assertIs(is_guard(unlike(), [], ["bob"], {}), True)
        self.assertIs(is_guard(End("no"), [], [], {}), True)
        self.assertIs(is_guard(End("no"), [], [], {("give", (), (), ()): [((), 1)]}), False)
        self.assertIs(is_guard(unlike(), [], [], {("give", (), (), ()): [((), 1)]}), False)


class ErrorsTest(unittest.TestCase):
    def test_errors(self):
        draw = read_draw(MIXED_TEXT)
        mine, yours = guards(draw, ["ann"], ["bob"], WIN)
        for value in wrong_lists(["ann", "bob", "cid"]):
            assert_raises(self, BadLiars, "given", value, lambda: is_guard(draw, value, None, None))
            assert_raises(self, BadLiars, "given", value, lambda: is_guard(draw, ["ann"], value, None))
        both = ["bob", "ann"]
        assert_raises(self, BadLiars, "given", both, lambda: is_guard(draw, ["ann"], both, {}))
        for ask, guard, other in ((made_sure, mine, yours), (kept_to, yours, mine)):
            for value in wrong_lists(["ann", "bob", "cid"]):
                assert_raises(self, BadLiars, "given", value, lambda: ask(draw, value, None, None, None, stake=None))
                assert_raises(self, BadLiars, "given", value, lambda: ask(draw, ["ann"], value, None, None, stake=None))
            assert_raises(self, BadLiars, "given", both, lambda: ask(draw, ["ann"], both, None, None, stake=None))
            for value in wrong_wishes(["no", "yes"]):
                assert_raises(self, BadWish, "given", value, lambda: ask(draw, ["ann"], ["bob"], value, None, stake=None))
            for value in wrong_values() + [other, {**guard, "x": 1}]:
                assert_raises(self, BadGuard, "given", value, lambda: ask(draw, ["ann"], ["bob"], WIN, value, stake=None))
            for value in wrong_amounts():
                assert_raises(self, BadStake, "given", value, lambda: ask(draw, ["ann"], ["bob"], WIN, guard, stake=value))
            self.assertEqual(ask(draw, ["ann"], ["bob"], WIN, guard), duel(draw, ["ann"], ["bob"], WIN))

    def test_arguments_stay_as_they_were(self):
        draw = read_draw(MIXED_TEXT)
        wish = random_wish(random.Random(1), draw)
        mine, _ = guards(draw, ["ann"], ["bob"], wish)
        kept = {key: list(mine[key]) for key in mine}
        first = made_sure(draw, ["ann"], ["bob"], wish, mine)
        self.assertEqual((mine, made_sure(draw, ["ann"], ["bob"], wish, kept)), (kept, first))


if __name__ == "__main__":
    unittest.main()
