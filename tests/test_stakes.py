import random
import unittest

from jointdraws.draws import End, Round, read_draw
from jointdraws.errors import BadCount, BadLiars, BadNumber, BadWish, UnlikeEnds
from jointdraws.honest import honest_mean, honest_shares
from jointdraws.plans import held_mean, is_plan, runs, score
from jointdraws.ratios import Ratio
from jointdraws.stakes import (
    higher_stake, least_stake, paying_plan, piece_plans, pieces, safe_stake, same_worths)
from jointdraws.worths import gain, worth
from tests.brute import greatest_score, outcomes, random_draw, random_number, random_wish, sets_of, small_games
from tests.samples import (
    FAIR, UNLIKE_TEXT, assert_raises, fraction, unlike, wrong_amounts, wrong_counts, wrong_lists, wrong_wishes)

WIN = {"no": 0, "yes": 1}
HOLDING = ["held", "last", "held", "open"]
UNSEEN_TEXT = "sealed(ann 1/2 1/2 *0, bob 1/2 1/2 *0; no, yes, yes, no)"
VOTES_TEXT = "held(ann 1/2 1/2 *0, bob 1/2 1/2 *0, cid 1/2 1/2 *0; no, no, no, yes, no, yes, yes, yes)"
# Two rounds in which holding back brings 1 and 1/3, so that there are three pieces.
STEPS_TEXT = ("open(cid 1/2 1/2 *0; held(ann 1/2 1/2 *0, bob 1/2 1/2 *0; no, yes, yes, no), "
              "held(ann 1/2 1/2 *0, bob 1/2 1/2 *0; no, maybe, maybe, no))")


def stakes_to_try(told):
    """The starts of pieces, places between them and close to them, and far ones."""
    starts = [fraction(start) for start, _, _ in told]
    between = [(one + other) / 2 for one, other in zip(starts, starts[1:])]
    near = [start + step for start in starts for step in (-fraction(Ratio(1, 10 ** 6)), fraction(Ratio(1, 10 ** 6)))]
    far = [starts[-1] + 1, starts[-1] * 2 + 10 ** 6]
    return [Ratio(stake.numerator, stake.denominator) for stake in starts + between + near + far if stake >= 0]


def by_pieces(told, stake):
    start, number, slope = [piece for piece in told if not stake.below(piece[0])][-1]
    return number + slope * (stake - start)


class PiecesTest(unittest.TestCase):
    def test_small_draws(self):
        source = random.Random(51)
        many = 0
        for draw, liars in small_games(51, 90, kinds=HOLDING):
            wish = random_wish(source, draw)
            got = pieces(draw=draw, liars=liars, wish=wish)
            many = max(many, len(got))
            plans_told = piece_plans(draw=draw, liars=liars, wish=wish)
            known = outcomes(draw, liars)
            self.assertEqual([len(got), got[0][0], got[-1][2]], [len(plans_told), 0, 0])
            self.assertEqual({type(part) for piece in got for part in piece}, {Ratio})
            self.assertEqual({type(piece) for piece in got}, {tuple})
            for number in (0, 2):
                column = [fraction(piece[number]) for piece in got]
                self.assertEqual(column, sorted(set(column)))
            self.assertTrue(all(fraction(slope) <= 0 for _, _, slope in got))
            for stake in stakes_to_try(got):
                due = greatest_score(known, draw, wish, stake)
                self.assertEqual(fraction(by_pieces(got, stake)), due, (draw.text(), liars, wish))
                self.assertEqual(fraction(worth(draw, liars, wish, stake=stake)), due)
            ends = [start for start, _, _ in got[1:]] + [got[-1][0] + 100]
            for (start, number, slope), plan, end in zip(got, plans_told, ends):
                self.assertIs(is_plan(draw, liars, plan), True)
                self.assertEqual(held_mean(draw, liars, plan), -slope)
                for stake in (start, (start + end) * Ratio(1, 2), end):
                    self.assertEqual(score(draw, liars, plan, wish, stake=stake), number + slope * (stake - start))
        self.assertGreaterEqual(many, 3)

    def test_larger_draws(self):
        source = random.Random(52)
        many = 0
        for _ in range(30):
            draw = random_draw(source, 3, ["a", "b", "c", "d"], kinds=HOLDING)
            for liars in sets_of(draw.people()):
                wish = random_wish(source, draw)
                got = pieces(draw, liars, wish)
                many = max(many, len(got))
                for stake in stakes_to_try(got):
                    self.assertEqual(by_pieces(got, stake), worth(draw, liars, wish, stake=stake))
                for (start, number, _), plan in zip(got, piece_plans(draw, liars, wish)):
                    self.assertEqual(score(draw, liars, plan, wish, stake=start), number)
                    self.assertEqual(score(draw, liars, plan, wish, stake=start + Ratio(1, 10 ** 30)),
                                     worth(draw, liars, wish, stake=start + Ratio(1, 10 ** 30)))
        self.assertGreaterEqual(many, 4)

    def test_three_pieces(self):
        draw = read_draw(STEPS_TEXT)
        wish = {"no": 0, "yes": 1, "maybe": Ratio(1, 3)}
        self.assertEqual(pieces(draw, ["bob"], wish), [
            (0, Ratio(2, 3), Ratio(-1, 2)), (Ratio(1, 3), Ratio(1, 2), Ratio(-1, 4)), (1, Ratio(1, 3), 0)])

    def test_no_holds(self):
        for text in (UNSEEN_TEXT, UNSEEN_TEXT.replace("sealed", "open"), "no", VOTES_TEXT):
            draw = read_draw(text)
            wish = {name: WIN[name] for name in draw.ends()}
            for liars in ([], draw.people()):
                got = pieces(draw, liars, wish)
                self.assertEqual(got, [(0, worth(draw, liars, wish), 0)])
                self.assertEqual(held_mean(draw, liars, piece_plans(draw, liars, wish)[0]), 0)

    def test_a_hold_that_brings_nothing(self):
        # With the stake 0 there are best plans with holds and such ones without.
        draw = read_draw("held(ann 1/2 1/2 *0; yes, yes)")
        self.assertEqual(pieces(draw, ["ann"], {"yes": 1}), [(0, 1, 0)])
        self.assertEqual(held_mean(draw, ["ann"], piece_plans(draw, ["ann"], {"yes": 1})[0]), 0)

    def test_order_of_liars_does_not_matter(self):
        source = random.Random(53)
        for draw, liars in small_games(53, 20):
            wish = random_wish(source, draw)
            self.assertEqual(pieces(draw, tuple(liars[::-1]), wish), pieces(draw, liars, wish))
            self.assertEqual(piece_plans(draw, liars[::-1], wish), piece_plans(draw, liars, wish))

    def test_deep_draws(self):
        draw = End("yes")
        for step in range(60):
            draw = Round("held", [("abc"[step % 3], FAIR, 0), ("d", FAIR, 0)], [End("no"), draw, draw if step < 5 else End("yes"), End("no")])
        got = pieces(draw, ["a"], WIN)
        for stake in stakes_to_try(got)[:12]:
            self.assertEqual(by_pieces(got, stake), worth(draw, ["a"], WIN, stake=stake))


class LeastStakeTest(unittest.TestCase):
    def test_small_draws(self):
        source = random.Random(54)
        none = some = 0
        for draw, liars in small_games(54, 120, kinds=HOLDING):
            wish, limit = random_wish(source, draw), source.choice([0, 0, Ratio(1, 10), Ratio(1, 2), 1])
            got = least_stake(draw=draw, liars=liars, wish=wish, limit=limit)
            plan = paying_plan(draw=draw, liars=liars, wish=wish, limit=limit)
            if got is None:
                none += 1
                self.assertIs(is_plan(draw, liars, plan), True)
                self.assertEqual({held for _, held, _ in runs(draw, liars, plan)}, {0})
                for stake in (0, 10 ** 9):
                    self.assertTrue((honest_mean(draw, wish) + limit).below(score(draw, liars, plan, wish, stake=stake)))
            else:
                some += got != 0
                self.assertIsNone(plan)
                self.assertIs(type(got), Ratio)
                for stake in (got, got + Ratio(1, 10 ** 9), got + 1, got * 1000 + 7):
                    self.assertFalse(fraction(gain(draw, liars, wish, stake=stake)) > fraction(limit))
                if got != 0:
                    for less in (got - got * Ratio(1, 10 ** 9), got * Ratio(1, 2)):
                        self.assertTrue(fraction(gain(draw, liars, wish, stake=less)) > fraction(limit))
        self.assertTrue(none > 10 and some > 3, (none, some))

    def test_just_reached(self):
        # Bob gains 1/2 - stake/2.
        draw = unlike()
        self.assertEqual(least_stake(draw, ["bob"], WIN, limit=Ratio(1, 2)), 0)
        self.assertEqual(least_stake(draw, ["bob"], WIN, limit=Ratio(1, 2) - Ratio(1, 10 ** 9)), Ratio(2, 10 ** 9))
        self.assertEqual([least_stake(draw, ["bob"], WIN), least_stake(draw, ["bob"], WIN, limit=10 ** 99)], [1, 0])
        draw = read_draw(VOTES_TEXT)
        self.assertEqual(paying_plan(draw, ["ann"], WIN), (((1,), (), ()),) * 4)
        self.assertEqual(least_stake(draw, ["ann"], WIN, limit=Ratio(1, 4)), 0)
        self.assertIsNone(least_stake(draw, ["ann"], WIN, limit=Ratio(1, 4) - Ratio(1, 10 ** 9)))
        self.assertIsNone(paying_plan(draw, ["ann"], WIN, limit=Ratio(1, 4)))
        self.assertIsNotNone(paying_plan(draw, ["ann"], WIN, limit=Ratio(1, 4) - Ratio(1, 10 ** 9)))

    def test_on_each_of_several_pieces(self):
        draw = read_draw(STEPS_TEXT)
        wish = {"no": 0, "yes": 1, "maybe": Ratio(1, 3)}
        told = [least_stake(draw, ["bob"], wish, limit=Ratio(limit, 12)) for limit in (4, 3, 2, 1, 0)]
        self.assertEqual(told, [0, Ratio(1, 6), Ratio(1, 3), Ratio(2, 3), 1])

    def test_nobody_and_ends(self):
        self.assertEqual([least_stake(End("no"), [], {"no": 1}), least_stake(unlike(), [], WIN)], [0, 0])
        self.assertEqual([paying_plan(End("no"), [], {"no": 1}), paying_plan(unlike(), [], WIN)], [None, None])


class SafeStakeTest(unittest.TestCase):
    def told(self, draw, most, limit):
        """What the least stakes of all sets and names say."""
        worst = None
        for liars in [liars for liars in sets_of(draw.people()) if len(liars) <= most]:
            for name in draw.ends():
                wish = {each: int(each == name) for each in draw.ends()}
                stake = least_stake(draw, liars, wish, limit=limit)
                if stake is None:
                    return (None, liars, name)
                if worst is None or worst[0].below(stake):
                    worst = (stake, liars, name)
        return worst

    def test_against_least_stakes(self):
        source = random.Random(55)
        none = some = 0
        for draw, _ in small_games(55, 50, kinds=HOLDING) + [(read_draw(STEPS_TEXT), None)]:
            for most in range(len(draw.people()) + 1):
                limit = source.choice([0, 0, Ratio(1, 8), Ratio(1, 2)])
                got = safe_stake(draw=draw, most=most, limit=limit)
                self.assertEqual(got, self.told(draw, most, limit), (draw.text(), most, limit))
                self.assertEqual([type(got), type(got[1])], [tuple, tuple])
                none += got[0] is None
                some += got[0] is not None and got[0] != 0
        self.assertTrue(none > 5 and some > 5)

    def test_first_set_and_name(self):
        self.assertEqual(safe_stake(unlike(), 0), (0, (), "no"))
        self.assertEqual(safe_stake(unlike(), 1), (1, ("ann",), "no"))
        self.assertEqual(safe_stake(unlike(), 2), (None, ("ann", "bob"), "no"))
        self.assertEqual(safe_stake(unlike(), 2, limit=Ratio(1, 2)), (0, (), "no"))
        self.assertEqual(safe_stake(End("yes"), 0), (0, (), "yes"))
        self.assertEqual(safe_stake(read_draw(VOTES_TEXT), 1), (None, ("ann",), "no"))
        # Only bob sees the number of ann before he may hold back, and only for yes it helps.
        draw = read_draw("held(ann 1/2 1/2 *1, bob 1/2 1/2 *0; no, no, yes, maybe)")
        self.assertEqual(safe_stake(draw, 1), self.told(draw, 1, 0))


class TwoDrawsTest(unittest.TestCase):
    def test_small_draws(self):
        source = random.Random(56)
        same = higher = 0
        games = [game for game in small_games(56, 150, names=("no", "yes"), kinds=HOLDING) if len(game[0].ends()) == 2]
        for (one, _), (other, _) in zip(games, games[1:] + games[:1]):
            common = sorted(set(one.people()) & set(other.people()))
            liars = source.sample(common, source.randrange(len(common) + 1))
            wish = source.choice([WIN, {"no": 1, "yes": 0}, random_wish(source, one)])
            mine, yours = pieces(one, liars, wish), pieces(other, liars, wish)
            stakes = stakes_to_try(mine) + stakes_to_try(yours)
            gaps = [fraction(worth(one, liars, wish, stake=stake)) - fraction(worth(other, liars, wish, stake=stake)) for stake in stakes]
            self.assertIs(same_worths(one=one, other=other, liars=liars, wish=wish), not any(gaps))
            same += not any(gaps)
            got = higher_stake(one=one, other=other, liars=liars, wish=wish)
            if got is None:
                self.assertLessEqual(max(gaps), 0)
            else:
                higher += 1
                self.assertIs(type(got), Ratio)
                self.assertFalse(got.below(0))
                self.assertTrue(worth(other, liars, wish, stake=got).below(worth(one, liars, wish, stake=got)))
            self.assertIs(same_worths(one, one, liars, wish), True)
            self.assertIsNone(higher_stake(one, one, liars, wish))
        self.assertTrue(same > 3 and higher > 20)

    def test_higher_with_some_stakes_only(self):
        held, unseen = unlike(), read_draw(UNSEEN_TEXT)
        self.assertTrue(higher_stake(held, unseen, ["bob"], WIN).below(1))
        self.assertIsNone(higher_stake(unseen, held, ["bob"], WIN))
        # A sure mean of 3/4 is less with the stake 0, but more from 1/2 on.
        sure = read_draw("sealed(ann 1/4 3/4 *0, bob 1/4 3/4 *1; no, no, yes, yes)")
        self.assertTrue(Ratio(1, 2).below(higher_stake(sure, held, ["bob"], WIN)))
        self.assertTrue(higher_stake(held, sure, ["bob"], WIN).below(Ratio(1, 2)))

    def test_everywhere_the_same(self):
        one = read_draw(UNLIKE_TEXT)
        other = read_draw("held(bob 1/2 1/2 *0, ann 1/2 1/2 *0; no, yes, yes, no)")
        for liars in sets_of(["ann", "bob"]):
            self.assertIs(same_worths(one, other, liars, WIN), True)

    def test_errors(self):
        one, other = unlike(), read_draw("held(ann 1/2 1/2 *0, cid 1/2 1/2 *0; no, yes, yes, no)")
        unlikes = [End("no"), read_draw(STEPS_TEXT), read_draw("open(ann 1/2 1/2 *0; no, nope)")]
        for call in (same_worths, higher_stake):
            for draw in unlikes:
                assert_raises(self, UnlikeEnds, None, None, lambda: call(one, draw, ["zoe"], None))
                assert_raises(self, UnlikeEnds, None, None, lambda: call(draw, one, None, None))
            for value in wrong_lists(["ann"]) + [["bob"], ["cid"], ["ann", "bob"], ["ann", "cid"]]:
                assert_raises(self, BadLiars, "given", value, lambda: call(one, other, value, None))
            for value in wrong_wishes(["no", "yes"]):
                assert_raises(self, BadWish, "given", value, lambda: call(one, other, ("ann",), value))


class ErrorsTest(unittest.TestCase):
    def test_bad_liars_and_wishes(self):
        for call in (pieces, piece_plans, lambda *given: least_stake(*given, limit=-1), lambda *given: paying_plan(*given, limit=None)):
            for value in wrong_lists(["ann", "bob"]):
                assert_raises(self, BadLiars, "given", value, lambda: call(unlike(), value, None))
            for value in wrong_wishes(["no", "yes"]):
                assert_raises(self, BadWish, "given", value, lambda: call(unlike(), ["ann"], value))

    def test_bad_limits(self):
        for value in wrong_amounts():
            assert_raises(self, BadNumber, "given", value, lambda: least_stake(unlike(), ["ann"], WIN, limit=value))
            assert_raises(self, BadNumber, "given", value, lambda: paying_plan(unlike(), ["ann"], WIN, limit=value))
            assert_raises(self, BadNumber, "given", value, lambda: safe_stake(unlike(), 1, limit=value))

    def test_bad_counts(self):
        for value in wrong_counts(2):
            assert_raises(self, BadCount, "given", value, lambda: safe_stake(unlike(), value, limit=-1))

    def test_arguments_stay_and_results_are_new(self):
        draw, liars, wish = unlike(), ["bob", "ann"][:1], {"yes": 1, "no": 0}
        text = draw.text()
        told = [pieces(draw, liars, wish), piece_plans(draw, liars, wish)]
        told[0].clear()
        told[1].append(None)
        self.assertEqual(pieces(draw, liars, wish), [(0, 1, Ratio(-1, 2)), (1, Ratio(1, 2), 0)])
        self.assertEqual(len(piece_plans(draw, liars, wish)), 2)
        self.assertEqual([draw.text(), liars, list(wish.items())], [text, ["bob"], [("yes", 1), ("no", 0)]])
        for call in (least_stake, paying_plan):
            self.assertRaises(TypeError, lambda: call(draw, liars, wish, 0))
        self.assertRaises(TypeError, lambda: safe_stake(draw, 1, 0))
        self.assertEqual(honest_shares(draw), {"no": Ratio(1, 2), "yes": Ratio(1, 2)})

    def test_large_numbers(self):
        source = random.Random(57)
        draw = read_draw(STEPS_TEXT)
        for _ in range(10):
            wish = {name: random_number(source) * Ratio(10 ** 98 + source.randrange(99), 10 ** 97 + source.randrange(99)) for name in draw.ends()}
            got = pieces(draw, ["ann"], wish)
            for stake in stakes_to_try(got):
                self.assertEqual(by_pieces(got, stake), worth(draw, ["ann"], wish, stake=stake))


if __name__ == "__main__":
    unittest.main()
