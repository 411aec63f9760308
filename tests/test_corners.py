import random
import unittest
from fractions import Fraction

from jointdraws.corners import (
    alike_for_wishes, barring_wish, bounds_of, can_reach, corners, mix, never_worse, parting_wish)
from jointdraws.draws import End, Round, read_draw
from jointdraws.errors import BadCorner, BadLiars, BadNames, TooMany, UnlikeEnds
from jointdraws.honest import honest_shares
from jointdraws.plans import is_plan, plan_shares
from jointdraws.ratios import Ratio, total
from jointdraws.worths import worth
from tests.brute import outcomes, random_draw, random_wish, sets_of, small_games
from tests.samples import FAIR, assert_raises, fraction, unlike, wrong_lists, wrong_values

UNSEEN_TEXT = "sealed(ann 1/2 1/2 *0, bob 1/2 1/2 *0; no, yes, yes, no)"
SUM_TEXT = "open(ann 1/2 1/2 *0; open(bob 1/3 1/3 1/3 *0; a, b, c), open(bob 1/2 1/2 *0; %s, %s))"
SIX_TEXT = "open(ann 1/2 1/3 1/6 *0; open(bob 1/2 1/2 *0; a, b), open(bob 1/2 1/2 *0; b, c), open(bob 1/2 1/2 *0; c, a))"


def turn(start, middle, end):
    return (middle[0] - start[0]) * (end[1] - start[1]) - (middle[1] - start[1]) * (end[0] - start[0])


def on_the_rim(point, points):
    """Whether a point is no mean of other ones: seen from it, all others lie within less than a half turn."""
    others = [other for other in points if other != point]

    def to_the_left(one, other):
        side = turn(point, one, other)
        ahead = (one[0] - point[0]) * (other[0] - point[0]) + (one[1] - point[1]) * (other[1] - point[1])
        return side > 0 or side == 0 and ahead > 0

    return not others or any(all(to_the_left(one, other) for other in others) for one in others)


def due_corners(draw, liars):
    """The chances at the corners, from the definition."""
    shares = sorted({parts for parts, _ in outcomes(draw, liars)})
    points = [(parts + (Fraction(0),))[:2] for parts in shares]
    return [parts for parts, point in zip(shares, points) if on_the_rim(point, points)]


def as_fractions(told):
    return [tuple(fraction(part) for part in parts) for parts, _ in told]


def as_ratio(number):
    return Ratio(number.numerator, number.denominator)


def mean_of(wish, shares):
    return total([wish[name] * shares[name] for name in wish])


def blended(source, told, names):
    """Any mean of the chances at corners, as a dict, mostly with a part 0 for some of them."""
    weights = [source.choice([0, 0, 1, 2, 5]) for _ in told] + [0]
    weights[source.randrange(len(told))] += 1
    parts = [sum(weight * parts[at] for weight, parts in zip(weights, told)) / sum(weights) for at in range(len(names))]
    return {name: as_ratio(part) for name, part in zip(names, parts)}


def moved(source, told, names):
    """Chances that mostly cannot be reached: a corner, or a place on an edge, moved a little away from the middle."""
    middle = [sum(parts[at] for parts in told) / len(told) for at in range(len(names))]
    one, other = source.choice(told), source.choice(told)
    edge = [part * Fraction(2, 3) + rest * Fraction(1, 3) for part, rest in zip(one, other)]
    step = source.choice([Fraction(1, 10 ** 9), Fraction(1, 7)])
    parts = [part + (part - rest) * step for part, rest in zip(edge, middle)]
    if min(parts) < 0:
        return None
    return {name: as_ratio(part) for name, part in zip(names, parts)}


class CornersTest(unittest.TestCase):
    def test_small_draws(self):
        most = 0
        for draw, liars in small_games(61, 90, names=("a", "b", "c"), most=120) + small_games(62, 30, names=("no", "yes"), most=120):
            got = corners(draw=draw, liars=liars)
            due = due_corners(draw, liars)
            most = max(most, len(got))
            self.assertEqual(as_fractions(got), due, (draw.text(), liars))
            self.assertEqual({type(part) for parts, _ in got for part in parts}, {Ratio})
            self.assertEqual({(type(row), len(row), type(row[0]), len(row[0])) for row in got}, {(tuple, 2, tuple, len(draw.ends()))})
            for parts, plan in got:
                self.assertIs(is_plan(draw, liars, plan), True)
                self.assertEqual(tuple(plan_shares(draw, liars, plan).values()), parts)
            self.assertEqual(corners(draw, tuple(liars[::-1])), got)
        self.assertGreaterEqual(most, 5)

    def test_worths_of_all_wishes(self):
        source = random.Random(63)
        for _ in range(25):
            draw = random_draw(source, 3, ["a", "b", "c"])
            names = draw.ends()
            for liars in sets_of(draw.people())[:8]:
                got = corners(draw, liars)
                self.assertEqual(as_fractions(got), sorted(set(as_fractions(got))))
                for parts, plan in got:
                    self.assertEqual(tuple(plan_shares(draw, liars, plan).values()), parts)
                for _ in range(4):
                    wish = random_wish(source, draw)
                    best = max(fraction(mean_of(wish, dict(zip(names, parts)))) for parts, _ in got)
                    self.assertEqual(fraction(worth(draw, liars, wish)), best)
                # None of them is a mean of the others.
                points = [(parts + (Fraction(0),))[:2] for parts in as_fractions(got)]
                if len(points) <= 9:
                    self.assertTrue(all(on_the_rim(point, points) for point in points))

    def test_one_two_and_three_names(self):
        self.assertEqual(corners(End("no"), []), [((1,), ())])
        self.assertEqual(corners(read_draw("held(ann 1/2 1/2 *0; no, no)"), ["ann"])[0][0], (1,))
        self.assertEqual(len(corners(read_draw("held(ann 1/2 1/2 *0; no, no)"), ["ann"])), 1)
        self.assertEqual([parts for parts, _ in corners(unlike(), ["bob"])], [(0, 1), (1, 0)])
        draw = read_draw("open(ann 1/4 1/4 1/4 1/4 *0; c, b, a, b)")
        self.assertEqual([parts for parts, _ in corners(draw, ["ann"])], [(0, 0, 1), (0, 1, 0), (1, 0, 0)])
        self.assertEqual([parts for parts, _ in corners(draw, [])], [(Ratio(1, 4), Ratio(1, 2), Ratio(1, 4))])

    def test_points_on_a_line(self):
        # c has always the chance 1/2, or a has: the corners lie on a line, and what lies between them is none.
        for ends, due in ((("c", "a, b"), [(0, Ratio(1, 2), Ratio(1, 2)), (Ratio(1, 2), 0, Ratio(1, 2))]),
                          (("a", "b, c"), [(Ratio(1, 2), 0, Ratio(1, 2)), (Ratio(1, 2), Ratio(1, 2), 0)]),
                          (("b", "a, c"), [(0, Ratio(1, 2), Ratio(1, 2)), (Ratio(1, 2), Ratio(1, 2), 0)])):
            draw = read_draw("open(ann 1/2 1/2 *0; %s, open(bob 1/3 1/3 1/3 *0; %s, open(cid 1/2 1/2 *0; %s)))" % (ends[0], ends[1], ends[1]))
            self.assertEqual([parts for parts, _ in corners(draw, ["bob"])], due)

    def test_more_corners(self):
        self.assertEqual(len(corners(read_draw(SUM_TEXT % ("a", "b")), ["bob"])), 4)
        self.assertEqual(len(corners(read_draw(SUM_TEXT % ("c", "c")), ["bob"])), 3)
        self.assertEqual(len(corners(read_draw(SIX_TEXT), ["bob"])), 6)

    def test_too_many(self):
        draw = read_draw("open(ann 1/4 1/4 1/4 1/4 *0; a, b, c, d)")
        for call in (lambda: corners(draw, ["ann"]), lambda: can_reach(draw, ["ann"], None), lambda: mix(draw, [], None),
                     lambda: barring_wish(draw, ["ann"], {})):
            with self.assertRaises(TooMany) as caught:
                call()
            self.assertEqual(caught.exception.count, 4)

    def test_deep_draws(self):
        draw = End("yes")
        for step in range(120):
            draw = Round("last" if step % 2 else "open", [("abc"[step % 3], FAIR, 0)], [End("no"), draw])
        self.assertEqual([parts for parts, _ in corners(draw, ["a"])], [(1 - Ratio(1, 2 ** 80), Ratio(1, 2 ** 80)), (1, 0)])


class ReachTest(unittest.TestCase):
    def check(self, draw, liars, shares):
        """Ask all three functions about some chances; return whether they can be reached."""
        can = can_reach(draw=draw, liars=liars, shares=shares)
        mixed = mix(draw=draw, liars=liars, shares=shares)
        wish = barring_wish(draw=draw, liars=liars, shares=shares)
        self.assertIs(can, mixed is not None)
        self.assertIs(can, wish is None)
        if can:
            self.assertTrue(1 <= len(mixed) <= len(draw.ends()))
            self.assertEqual({(type(row), type(row[0])) for row in mixed}, {(tuple, Ratio)})
            self.assertTrue(all(fraction(part) > 0 for part, _ in mixed))
            self.assertEqual(total([part for part, _ in mixed]), 1)
            told = [(part, plan_shares(draw, liars, plan)) for part, plan in mixed]
            for name in shares:
                self.assertEqual(total([part * brought[name] for part, brought in told]), shares[name])
        else:
            self.assertEqual(sorted(wish), draw.ends())
            self.assertEqual({type(number) for number in wish.values()}, {Ratio})
            self.assertTrue(worth(draw, liars, wish).below(mean_of(wish, shares)))
        return can

    def test_small_draws(self):
        source = random.Random(71)
        reached = barred = 0
        for draw, liars in small_games(71, 120, names=("a", "b", "c"), most=200) + small_games(72, 40, names=("no", "yes"), most=200):
            names = draw.ends()
            told = as_fractions(corners(draw, liars))
            for parts in told:
                self.assertTrue(self.check(draw, liars, {name: as_ratio(part) for name, part in zip(names, parts)}))
            for _ in range(4):
                self.assertTrue(self.check(draw, liars, blended(source, told, names)))
                shares = moved(source, told, names)
                if shares is not None:
                    if self.check(draw, liars, shares):
                        reached += 1
                    else:
                        barred += 1
                weights = [source.randrange(5) for _ in names]
                if sum(weights):
                    self.check(draw, liars, {name: Ratio(weight, sum(weights)) for name, weight in zip(names, weights)})
            self.assertTrue(self.check(draw, liars, honest_shares(draw)))
        self.assertTrue(reached > 20 and barred > 20, (reached, barred))

    def test_corner_edge_within_and_beyond(self):
        draw = read_draw("open(ann 1/2 1/2 *0; open(bob 1/3 1/3 1/3 *0; a, b, c), a)")
        half, little = Ratio(1, 2), Ratio(1, 10 ** 50)
        for parts, due in (((1, 0, 0), True), ((half, half, 0), True), ((half, 0, half), True), ((half, Ratio(1, 4), Ratio(1, 4)), True),
                           ((Ratio(3, 4), Ratio(1, 8), Ratio(1, 8)), True), ((half - little, half, little), False),
                           ((half - little, half + little, 0), False), ((half, half - little, little), True),
                           ((half + little, half - little, 0), True), ((half - little, Ratio(1, 4), Ratio(1, 4) + little), False),
                           ((0, 0, 1), False), ((0, 1, 0), False), ((Ratio(1, 3), Ratio(1, 3), Ratio(1, 3)), False)):
            self.assertIs(self.check(draw, ["bob"], dict(zip("abc", parts))), due, parts)

    def test_a_single_corner_and_a_line(self):
        draw = read_draw("sealed(ann 1/3 1/3 1/3 *0; a, b, c)")
        third, little = Ratio(1, 3), Ratio(1, 10 ** 40)
        self.assertTrue(self.check(draw, [], {"a": third, "b": third, "c": third}))
        for step in ((little, -little, 0), (-little, 0, little), (0, little, -little), (little, little, -2 * little)):
            self.assertFalse(self.check(draw, [], {name: third + part for name, part in zip("abc", step)}))
        self.assertTrue(self.check(End("no"), [], {"no": 1}))
        self.assertTrue(self.check(End("no"), [], {"no": Ratio(2, 2)}))
        draw = read_draw("open(ann 1/2 1/2 *0; c, open(bob 1/2 1/2 *0; a, b))")
        half, fourth = Ratio(1, 2), Ratio(1, 4)
        for parts, due in (((0, half, half), True), ((half, 0, half), True), ((fourth, fourth, half), True),
                           ((fourth + little, fourth, half - little), False), ((fourth - little, fourth, half + little), False),
                           ((1, 0, 0), False), ((0, 1, 0), False), ((0, 0, 1), False), ((half + little, 0, half - little), False),
                           ((Ratio(3, 4), 0, fourth), False)):
            self.assertIs(self.check(draw, ["bob"], dict(zip("abc", parts))), due, parts)

    def test_bad_corners(self):
        half = Ratio(1, 2)
        wrong = [{"no": half}, {"no": half, "yes": half, "maybe": 0}, {"no": half, "nope": half}, {"no": half, "yes": Ratio(1, 3)},
                 {"no": 1, "yes": Ratio(-1, 3)}, {"no": 2, "yes": -1}, {"no": 0, "yes": 0}, {"no": 1, "yes": 1}, {"no": True, "yes": 0},
                 {"no": 1, "yes": False}, {"no": 1, "yes": None}, {"no": "1", "yes": 0}, {"no": [1], "yes": 0}, {"no": 1, "yes": {}},
                 (half, half), [1, 0], [("no", 1), ("yes", 0)], {0: half, 1: half}, {"no": 1, "yes": End("a")}, {"no": half, "yes": half, 1: 0}]
        for value in wrong + wrong_values():
            for call in (can_reach, mix, barring_wish):
                assert_raises(self, BadCorner, "given", value, lambda: call(unlike(), ["bob"], value))
                if value != {"no": 0}:
                    assert_raises(self, BadCorner, "given", value, lambda: call(End("no"), [], value))
        for call in (can_reach, mix, barring_wish):
            for value in wrong_lists(["ann", "bob"]):
                assert_raises(self, BadLiars, "given", value, lambda: call(unlike(), value, None))
                assert_raises(self, BadLiars, "given", value, lambda: corners(unlike(), value))
            four = read_draw("open(ann 1/4 1/4 1/4 1/4 *0; a, b, c, d)")
            assert_raises(self, BadLiars, "given", call, lambda: call(four, call, None))


class TwoDrawsTest(unittest.TestCase):
    def test_small_draws(self):
        source = random.Random(73)
        alike = never = parted = 0
        for names in (("a", "b", "c"), ("no", "yes")):
            games = [game for game in small_games(74, 90, names=names, most=200) if game[0].ends() == sorted(names)]
            for (one, _), (other, _) in zip(games, games[1:] + games[:1]):
                common = sorted(set(one.people()) & set(other.people()))
                liars = source.sample(common, source.randrange(len(common) + 1))
                mine, yours = corners(one, liars), corners(other, liars)
                due = [parts for parts, _ in mine] == [parts for parts, _ in yours]
                self.assertIs(alike_for_wishes(one=one, other=other, liars=liars), due)
                alike += due
                encloses = all(can_reach(one, liars, dict(zip(one.ends(), parts))) for parts, _ in yours)
                self.assertIs(never_worse(one=one, other=other, liars=liars), encloses)
                never += encloses
                wish = parting_wish(one=one, other=other, liars=liars)
                self.assertIs(wish is None, encloses)
                if wish is not None:
                    parted += 1
                    self.assertEqual([sorted(wish), {type(number) for number in wish.values()}], [one.ends(), {Ratio}])
                    self.assertTrue(worth(one, liars, wish).below(worth(other, liars, wish)))
                self.assertIs(alike_for_wishes(one, one, liars), True)
                self.assertIs(never_worse(other, other, liars), True)
        self.assertTrue(never > 10 and parted > 10, (alike, never, parted))

    def test_alike_with_other_rounds(self):
        one = read_draw("open(ann 1/2 1/2 *0; a, b)")
        other = read_draw("held(ann 1/3 1/3 1/3 *0; a, open(ann 1/2 1/2 *0; b, a), a)")
        self.assertEqual([alike_for_wishes(one, other, ["ann"]), alike_for_wishes(one, other, [])], [True, False])
        self.assertEqual([never_worse(one, other, ["ann"]), never_worse(one, other, ()), parting_wish(one, other, ["ann"])], [True, False, None])

    def test_errors(self):
        one, other = unlike(), read_draw("held(ann 1/2 1/2 *0, cid 1/2 1/2 *0; no, yes, yes, no)")
        four = read_draw("open(ann 1/4 1/4 1/4 1/4 *0; a, b, c, d)")
        for call in (alike_for_wishes, never_worse, parting_wish):
            for draw in (End("no"), four, read_draw("open(ann 1/2 1/2 *0; no, nope)")):
                assert_raises(self, UnlikeEnds, None, None, lambda: call(one, draw, ["zoe"]))
                assert_raises(self, UnlikeEnds, None, None, lambda: call(draw, one, None))
            for value in wrong_lists(["ann"]) + [["bob"], ["cid"], ["ann", "bob"]]:
                assert_raises(self, BadLiars, "given", value, lambda: call(one, other, value))
            assert_raises(self, BadLiars, "given", call, lambda: call(four, four, call))
            with self.assertRaises(TooMany) as caught:
                call(four, four, ["ann"])
            self.assertEqual(caught.exception.count, 4)


class BoundsTest(unittest.TestCase):
    def test_small_draws(self):
        for draw, liars in small_games(75, 60, names=("a", "b", "c", "d")):
            told = outcomes(draw, liars)
            for names in sets_of(draw.ends()):
                chances = [sum(part for name, part in zip(draw.ends(), parts) if name in names) for parts, _ in told]
                got = bounds_of(draw=draw, liars=liars, names=names)
                self.assertEqual([type(got), [type(part) for part in got]], [tuple, [Ratio, Ratio]])
                self.assertEqual([fraction(part) for part in got], [min(chances), max(chances)])
                self.assertEqual(bounds_of(draw, tuple(liars[::-1]), list(names[::-1])), got)

    def test_edges(self):
        draw = read_draw("open(ann 1/4 1/4 1/4 1/4 *0; a, b, c, open(bob 1/2 1/2 *0; d, e))")
        self.assertEqual(bounds_of(draw, ["ann"], []), (0, 0))
        self.assertEqual(bounds_of(draw, [], ["a", "b", "c", "d", "e"]), (1, 1))
        self.assertEqual(bounds_of(draw, ["ann"], ["e"]), (0, Ratio(1, 2)))
        self.assertEqual(bounds_of(draw, ["bob"], ("e", "a")), (Ratio(1, 4), Ratio(1, 2)))
        self.assertEqual([bounds_of(End("no"), [], ["no"]), bounds_of(End("no"), [], [])], [(1, 1), (0, 0)])

    def test_errors(self):
        for value in wrong_lists(["ann", "bob"]):
            assert_raises(self, BadLiars, "given", value, lambda: bounds_of(unlike(), value, None))
        for value in wrong_lists(["no", "yes"]):
            if value != ["no"]:
                assert_raises(self, BadNames, "given", value, lambda: bounds_of(unlike(), ["ann"], value))


class StayTest(unittest.TestCase):
    def test_arguments_stay_and_results_are_new(self):
        draw, liars, shares = unlike(), ["bob"], {"yes": Ratio(3, 4), "no": Ratio(1, 4)}
        text = draw.text()
        first = corners(draw, liars)
        kept = list(first)
        first.clear()
        self.assertEqual(corners(draw, liars), kept)
        first = mix(draw, liars, shares)
        kept = list(first)
        first.pop()
        self.assertEqual(mix(draw, liars, shares), kept)
        unseen = read_draw(UNSEEN_TEXT)
        wish = barring_wish(unseen, liars, shares)
        kept = dict(wish)
        wish.clear()
        self.assertEqual(barring_wish(unseen, liars, shares), kept)
        wish = parting_wish(unseen, draw, liars)
        kept = dict(wish)
        wish["no"] = None
        self.assertEqual(parting_wish(unseen, draw, liars), kept)
        self.assertEqual([draw.text(), liars, list(shares.items())], [text, ["bob"], [("yes", Ratio(3, 4)), ("no", Ratio(1, 4))]])


if __name__ == "__main__":
    unittest.main()
