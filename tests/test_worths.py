import random
import unittest
from itertools import combinations

from jointdraws.draws import End, Round, read_draw
from jointdraws.errors import BadCount, BadLiars, BadStake, BadWish
from jointdraws.honest import honest_mean
from jointdraws.plans import is_plan, score
from jointdraws.ratios import Ratio
from jointdraws.worths import best_plan, gain, greatest_worth, is_table, table, worth, worths
from tests.brute import (
    KINDS, all_spots, best_from, by_one_round, greatest_score, outcomes, random_draw, random_wish, sets_of, small_games)
from tests.samples import (
    FAIR, UNLIKE_TEXT, assert_raises, fraction, more, unlike, wrong_amounts, wrong_counts, wrong_lists, wrong_values,
    wrong_wishes)

WIN = {"no": 0, "yes": 1}
STAKES = [0, Ratio(1, 7), Ratio(1, 2), 1, 3]


def with_kinds(source, draw):
    """The draw with the next kind, as point 54 orders them, in some of the rounds."""
    if isinstance(draw, End):
        return draw
    order = ["sealed", "last", "held", "open"]
    kind = draw.kind
    if kind != "open" and source.random() < 0.6:
        kind = order[order.index(kind) + 1]
    return Round(kind, draw.givers, [with_kinds(source, further) for further in draw.draws])


class WorthTest(unittest.TestCase):
    def test_all_plans_gone_through(self):
        source = random.Random(21)
        for draw, liars in small_games(21, 100):
            told = outcomes(draw, liars)
            for _ in range(3):
                wish, stake = random_wish(source, draw), source.choice(STAKES)
                due = greatest_score(told, draw, wish, stake)
                got = worth(draw=draw, liars=liars, wish=wish, stake=stake)
                self.assertEqual([fraction(got), type(got)], [due, Ratio], (draw.text(), liars, stake))
                got = gain(draw=draw, liars=liars, wish=wish, stake=stake)
                self.assertEqual([fraction(got), type(got)], [due - fraction(honest_mean(draw, wish)), Ratio])
                plan = best_plan(draw=draw, liars=liars, wish=wish, stake=stake)
                self.assertIs(is_plan(draw, liars, plan), True)
                self.assertEqual(fraction(score(draw, liars, plan, wish, stake=stake)), due)

    def test_without_a_stake_it_is_0(self):
        source = random.Random(22)
        for draw, liars in small_games(22, 20):
            wish = random_wish(source, draw)
            self.assertEqual(worth(draw, liars, wish), worth(draw, liars, wish, stake=0))
            self.assertEqual(gain(draw, liars, wish), gain(draw, liars, wish, stake=Ratio(0)))
            self.assertEqual(score(draw, liars, best_plan(draw, liars, wish), wish), worth(draw, liars, wish))

    def test_without_a_stake_it_is_0_where_it_counts(self):
        told = table(unlike(), ["bob"], WIN)
        self.assertEqual([told, told[((), ())]], [table(unlike(), ["bob"], WIN, stake=0), 1])
        self.assertIs(is_table(unlike(), ["bob"], WIN, told), True)
        self.assertIs(is_table(unlike(), ["bob"], WIN, told, stake=1), False)
        self.assertEqual([worths(unlike(), WIN)[("bob",)], worths(unlike(), WIN, stake=1)[("bob",)]], [1, Ratio(1, 2)])
        self.assertEqual([greatest_worth(unlike(), WIN, 1), greatest_worth(unlike(), WIN, 1, stake=1)], [(1, ("ann",)), (Ratio(1, 2), ())])

    def test_each_kind_of_round(self):
        # Ann wants an end that hangs on both numbers alike: she gets it if she sees the other number.
        text = "%s(ann 1/2 1/2 *0, bob 1/2 1/2 *0; no, yes, yes, no)"
        told = [worth(read_draw(text % kind), ["ann"], WIN).text() for kind in KINDS]
        self.assertEqual(told, ["1", "1/2", "1", "1"])
        told = [worth(read_draw(text % kind), ["ann"], WIN, stake=Ratio(1, 4)).text() for kind in KINDS]
        self.assertEqual(told, ["1", "1/2", "7/8", "7/8"])

    def test_last_rounds_put_out(self):
        # Who holds back in the first round cannot do so in the second one, where the stand-in counts.
        text = "%s(ann 1/2 1/2 *1, bob 1/2 1/2 *0; no, held(ann 1/2 1/2 *0; yes, no), held(ann 1/2 1/2 *1; yes, no), yes)"
        told = [worth(read_draw(text % kind), ["ann"], WIN).text() for kind in ("held", "last")]
        self.assertEqual(told, ["1", "1"])
        text = "%s(ann 1/2 1/2 *1, bob 1/2 1/2 *0; held(ann 1/2 1/2 *0; no, yes), no, held(ann 1/2 1/2 *0; no, yes), no)"
        told = [worth(read_draw(text % kind), ["ann"], WIN, stake=Ratio(1, 8)).text() for kind in ("sealed", "held", "last")]
        self.assertEqual(told, ["1/2", "1/2", "1/2"])
        text = "%s(ann 1/2 1/2 *1, bob 1/2 1/2 *0; no, no, sealed(ann 1/2 1/2 *0; no, yes), no)"
        told = [worth(read_draw(text % kind), ["ann"], WIN).text() for kind in ("held", "last")]
        self.assertEqual(told, ["1/2", "1/2"])
        text = "%s(ann 1/2 1/2 *1, bob 1/2 1/2 *0; no, yes, sealed(ann 1/2 1/2 *0; no, yes), no)"
        told = [worth(read_draw(text % kind), ["ann"], WIN).text() for kind in ("held", "last")]
        # With 0 first, and a hold if bob gave 0: in the second round ann is out behind a last one only.
        self.assertEqual(told, ["1", "1/2"])

    def test_ends_and_nobody(self):
        self.assertEqual([worth(End("no"), [], {"no": -3}, stake=5), gain(End("no"), (), {"no": 4})], [-3, 0])
        self.assertEqual(best_plan(End("no"), [], {"no": -3}), ())
        for draw, _ in small_games(23, 20):
            wish = random_wish(random.Random(23), draw)
            self.assertEqual(worth(draw, [], wish, stake=1), honest_mean(draw, wish))
            self.assertEqual(gain(draw, [], wish), 0)

    def test_all_lie(self):
        source = random.Random(24)
        for draw, _ in small_games(24, 40):
            wish = random_wish(source, draw)
            # Together they give any row they like, and never hold back.
            best = max(fraction(number) for number in wish.values())
            self.assertEqual(fraction(worth(draw, draw.people(), wish, stake=1)), best)

    def test_larger_draws_against_the_rounds_by_themselves(self):
        source = random.Random(25)
        for _ in range(25):
            draw = random_draw(source, 3, ["a", "b", "c", "d"])
            wish, stake = random_wish(source, draw), source.choice(STAKES)
            for liars in sets_of(draw.people())[:9]:
                self.assertEqual(fraction(worth(draw, liars, wish, stake=stake)), best_from(draw, liars, (), wish, stake))

    def test_order_of_liars_and_wish_does_not_matter(self):
        source = random.Random(26)
        for draw, liars in small_games(26, 30):
            wish = random_wish(source, draw)
            other = {name: wish[name] for name in sorted(wish, reverse=True)}
            self.assertEqual(best_plan(draw, liars[::-1], other, stake=1), best_plan(draw, tuple(liars), wish, stake=1))
            self.assertEqual(worth(draw, tuple(liars[::-1]), other), worth(draw, liars, wish))

    def test_large_numbers(self):
        wish = {"no": -10 ** 99, "yes": Ratio(10 ** 99 - 1, 10 ** 99)}
        draw = unlike()
        self.assertEqual(worth(draw, ["bob"], wish, stake=10 ** 99), Ratio(10 ** 99 - 1, 10 ** 99) - Ratio(10 ** 99, 2))
        self.assertEqual(worth(draw, ["bob"], wish, stake=Ratio(1, 10 ** 99)), Ratio(10 ** 99 - 1, 10 ** 99) - Ratio(1, 2 * 10 ** 99))

    def test_deep_draws(self):
        draw = End("yes")
        for step in range(250):
            draw = Round("held", [("abc"[step % 3], FAIR, 0)], [End("no"), draw])
        self.assertEqual(worth(draw, ["a", "b", "c"], WIN), 1)
        self.assertEqual(worth(draw, ["a"], WIN, stake=3), Ratio(1, 2 ** 166))
        self.assertEqual(score(draw, ["a"], best_plan(draw, ["a"], WIN), WIN), Ratio(1, 2 ** 166))
        self.assertEqual(len(table(draw, ["a"], WIN)), 501)


class TableTest(unittest.TestCase):
    def test_small_draws(self):
        source = random.Random(31)
        for draw, liars in small_games(31, 60):
            wish, stake = random_wish(source, draw), source.choice(STAKES)
            got = table(draw=draw, liars=liars, wish=wish, stake=stake)
            spots = all_spots(draw, liars)
            self.assertEqual(set(got), set(spots), (draw.text(), liars))
            for path, out in spots:
                self.assertEqual(fraction(got[(path, out)]), best_from(spots[(path, out)], liars, out, wish, stake))
                self.assertIs(type(got[(path, out)]), Ratio)
                if isinstance(draw.at(path), End):
                    self.assertEqual(got[(path, out)], wish[draw.at(path).name])
            self.assertEqual(got[((), ())], worth(draw, liars, wish, stake=stake))

    def test_out_at_ends(self):
        draw = read_draw("last(ann 1/2 1/2 *1, bob 1/2 1/2 *0; no, yes, yes, no)")
        got = table(draw, ["ann"], WIN)
        self.assertEqual(sorted(got), [((), ())] + [(((0, 0),), ()), (((0, 1),), ()), (((1, 0),), ()), (((1, 0),), ("ann",)),
                                                    (((1, 1),), ()), (((1, 1),), ("ann",))])
        got = table(draw, ["bob", "ann"], WIN)
        self.assertEqual(got[(((1, 0),), ("ann", "bob"))], 1)
        self.assertNotIn((((0, 0),), ("ann", "bob")), got)

    def test_is_table(self):
        source = random.Random(32)
        for draw, liars in small_games(32, 40):
            wish, stake = random_wish(source, draw), source.choice(STAKES)
            good = table(draw, liars, wish, stake=stake)
            self.assertIs(is_table(draw=draw, liars=liars, wish=wish, value=good, stake=stake), True)
            self.assertIs(is_table(draw, liars, wish, {spot: good[spot] for spot in reversed(good)}, stake=stake), True)
            plain = {spot: good[spot].top if good[spot].bottom == 1 else good[spot] for spot in good}
            self.assertIs(is_table(draw, liars, wish, plain, stake=stake), True)
            for spot in source.sample(sorted(good), min(4, len(good))):
                for wrong in (good[spot] + Ratio(1, 10 ** 9), None, True, good[spot].text(), [good[spot]], draw):
                    self.assertIs(is_table(draw, liars, wish, {**good, spot: wrong}, stake=stake), False)
                short = {key: good[key] for key in good if key != spot}
                self.assertIs(is_table(draw, liars, wish, short, stake=stake), False)
                self.assertIs(is_table(draw, liars, wish, {**short, (spot[0], ("zoe",)): good[spot]}, stake=stake), False)
            self.assertIs(is_table(draw, liars, wish, {**good, "other": 0}, stake=stake), False)
            self.assertIs(is_table(draw, liars, wish, {**good, (): 0}, stake=stake), False)
            for value in wrong_values() + [list(good.items()), tuple(good), [good]]:
                self.assertIs(is_table(draw, liars, wish, value, stake=stake), False)

    def test_true_is_no_number(self):
        self.assertIs(is_table(End("a"), [], {"a": 1}, {((), ()): 1}), True)
        self.assertIs(is_table(End("a"), [], {"a": 1}, {((), ()): True}), False)
        self.assertIs(is_table(End("a"), [], {"a": 0}, {((), ()): False}), False)

    def test_main_statement(self):
        source = random.Random(33)
        for draw, liars in small_games(33, 40):
            wish, stake = random_wish(source, draw), source.choice(STAKES)
            good = table(draw, liars, wish, stake=stake)

            def keeps_the_rule(value):
                for path, out in value:
                    here = draw.at(path)
                    due = fraction(wish[here.name]) if isinstance(here, End) else by_one_round(draw, liars, (path, out), value, stake)
                    if fraction(value[(path, out)]) != due:
                        return False
                return True

            self.assertTrue(keeps_the_rule(good))
            for spot in source.sample(sorted(good), min(5, len(good))):
                for change in (1, Ratio(-1, 3)):
                    value = {**good, spot: good[spot] + change}
                    # What hangs on the changed number is made to fit again, so that the rule fails at one spot alone.
                    for path, out in sorted(value, key=lambda key: -len(key[0])):
                        if len(path) < len(spot[0]) and not isinstance(draw.at(path), End):
                            told = by_one_round(draw, liars, (path, out), value, stake)
                            value[(path, out)] = Ratio(told.numerator, told.denominator)
                    self.assertFalse(keeps_the_rule(value))
                    self.assertIs(is_table(draw, liars, wish, value, stake=stake), False)


class WorthsTest(unittest.TestCase):
    def test_all_sets(self):
        source = random.Random(41)
        for draw, _ in small_games(41, 40):
            wish, stake = random_wish(source, draw), source.choice(STAKES)
            got = worths(draw=draw, wish=wish, stake=stake)
            self.assertEqual(set(got), set(sets_of(draw.people())))
            for liars in got:
                self.assertEqual([got[liars], type(got[liars])], [worth(draw, liars, wish, stake=stake), Ratio])

    def test_greatest_worth(self):
        source = random.Random(42)
        for draw, _ in small_games(42, 40):
            wish, stake = random_wish(source, draw), source.choice(STAKES)
            for most in range(len(draw.people()) + 1):
                told = [(worth(draw, liars, wish, stake=stake), liars) for liars in sets_of(draw.people()) if len(liars) <= most]
                best = max(fraction(number) for number, _ in told)
                first = next(liars for number, liars in told if fraction(number) == best)
                got = greatest_worth(draw=draw, wish=wish, most=most, stake=stake)
                self.assertEqual([type(got), fraction(got[0]), type(got[0]), got[1]], [tuple, best, Ratio, first])

    def test_sets_with_fewer_people_come_first(self):
        draw = read_draw("open(ann 1/2 1/2 *0; open(bob 1/2 1/2 *0; no, yes), open(cid 1/2 1/2 *0; no, yes))")
        self.assertEqual(greatest_worth(draw, WIN, 3), (1, ("ann", "bob")))
        self.assertEqual(greatest_worth(draw, WIN, 1), (Ratio(3, 4), ("bob",)))
        self.assertEqual(greatest_worth(draw, {"no": 5, "yes": 5}, 3), (5, ()))
        self.assertEqual([greatest_worth(End("no"), {"no": 2}, 0), worths(End("no"), {"no": 2})], [(2, ()), {(): 2}])

    def test_more_liars_never_get_less(self):
        source = random.Random(43)
        for draw, _ in small_games(43, 30):
            wish, stake = random_wish(source, draw), source.choice(STAKES)
            told = {liars: fraction(number) for liars, number in worths(draw, wish, stake=stake).items()}
            for some, others in combinations(sorted(told), 2):
                if set(some) <= set(others):
                    self.assertLessEqual(told[some], told[others])
                elif set(others) <= set(some):
                    self.assertLessEqual(told[others], told[some])
            self.assertTrue(all(told[liars] >= fraction(honest_mean(draw, wish)) for liars in told))

    def test_kinds_that_tell_more(self):
        source = random.Random(44)
        for draw, liars in small_games(44, 60):
            wish = random_wish(source, draw)
            before = draw
            for _ in range(3):
                after = with_kinds(source, before)
                self.assertFalse(worth(after, liars, wish).below(worth(before, liars, wish)), (before.text(), after.text(), liars))
                before = after

    def test_a_greater_stake_never_brings_more(self):
        source = random.Random(45)
        for draw, liars in small_games(45, 30):
            wish = random_wish(source, draw)
            told = [fraction(worth(draw, liars, wish, stake=stake)) for stake in STAKES]
            self.assertEqual(told, sorted(told, reverse=True))


class ErrorsTest(unittest.TestCase):
    def test_bad_liars(self):
        calls = (worth, gain, best_plan, table)
        for value in wrong_lists(["ann", "bob"]):
            for call in calls:
                assert_raises(self, BadLiars, "given", value, lambda: call(unlike(), value, None, stake=None))
            assert_raises(self, BadLiars, "given", value, lambda: is_table(unlike(), value, None, None, stake=None))
        for value in wrong_lists([]):
            assert_raises(self, BadLiars, "given", value, lambda: worth(End("no"), value, {"no": 0}))

    def test_bad_wishes(self):
        for value in wrong_wishes(["no", "yes"]):
            for call in (worth, gain, best_plan, table):
                assert_raises(self, BadWish, "given", value, lambda: call(unlike(), ["ann"], value, stake=None))
            assert_raises(self, BadWish, "given", value, lambda: is_table(unlike(), ["ann"], value, None, stake=None))
            assert_raises(self, BadWish, "given", value, lambda: worths(unlike(), value, stake=None))
            assert_raises(self, BadWish, "given", value, lambda: greatest_worth(unlike(), value, None, stake=None))

    def test_bad_stakes(self):
        for value in wrong_amounts():
            for call in (worth, gain, best_plan, table):
                assert_raises(self, BadStake, "given", value, lambda: call(unlike(), ["ann"], WIN, stake=value))
            assert_raises(self, BadStake, "given", value, lambda: is_table(unlike(), ["ann"], WIN, None, stake=value))
            assert_raises(self, BadStake, "given", value, lambda: worths(unlike(), WIN, stake=value))
            assert_raises(self, BadStake, "given", value, lambda: greatest_worth(unlike(), WIN, 1, stake=value))

    def test_bad_counts(self):
        for value in wrong_counts(2):
            assert_raises(self, BadCount, "given", value, lambda: greatest_worth(unlike(), WIN, value, stake=None))
        for value in wrong_counts(0):
            assert_raises(self, BadCount, "given", value, lambda: greatest_worth(End("no"), {"no": 0}, value))

    def test_arguments_stay_and_results_are_new(self):
        draw, liars, wish = more(), ["ann", "cid"], {"yes": 3, "no": Ratio(1, 2)}
        text, first, all_of_them = draw.text(), table(draw, liars, wish), worths(draw, wish)
        kept, told = dict(first), dict(all_of_them)
        first.clear()
        all_of_them[()] = None
        self.assertEqual([table(draw, liars, wish), worths(draw, wish)], [kept, told])
        self.assertEqual([draw.text(), liars, list(wish.items())], [text, ["ann", "cid"], [("yes", 3), ("no", Ratio(1, 2))]])
        for call in (worth, table):
            self.assertRaises(TypeError, lambda: call(draw, liars, wish, 0))

    def test_results_may_be_passed_again(self):
        wish = dict(WIN)
        for _ in range(6):
            got = worth(read_draw(UNLIKE_TEXT), ["bob"], wish, stake=Ratio(1, 10 ** 60 + 7))
            wish = {"no": got * got, "yes": -got}
        self.assertGreater(len(str(got.bottom)), 100)


if __name__ == "__main__":
    unittest.main()
