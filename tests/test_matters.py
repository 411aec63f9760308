import random
import unittest
from fractions import Fraction
from itertools import permutations

from jointdraws.corners import corners
from jointdraws.draws import End, read_draw
from jointdraws.errors import BadLiars, BadNumber, BadPrices, BadStake, BadWish, NoPerson, TooMany
from jointdraws.matters import (
    cheapest_set, idle_people, least_sets, matters, needed_people, parts_of_gain, who_matters)
from jointdraws.ratios import Ratio, total
from jointdraws.worths import gain, worth
from tests.brute import random_draw, random_number, random_wish, sets_of, small_games
from tests.samples import (
    assert_raises, fraction, is_number, unlike, wrong_amounts, wrong_lists, wrong_prices, wrong_values, wrong_wishes)

WIN = {"no": 0, "yes": 1}
STAKES = [0, 0, Ratio(1, 7), 1]
VOTES_TEXT = "held(ann 1/2 1/2 *0, bob 1/2 1/2 *0, cid 1/2 1/2 *0; no, no, no, yes, no, yes, yes, yes)"
FOUR_NAMES_TEXT = "open(ann 1/4 1/4 1/4 1/4 *0; a, b, c, open(bob 1/2 1/2 *0; a, d))"


def draws_with_people(seed, many, names=("a", "b", "c")):
    """Draws with a few people, small and somewhat larger ones."""
    source = random.Random(seed)
    draws = [draw for draw, _ in small_games(seed, 0)]
    draws = [draw for at, draw in enumerate(draws) if draw not in draws[:at]]
    return draws + [random_draw(source, source.choice([2, 3]), list(names)) for _ in range(many)]


class MattersTest(unittest.TestCase):
    def test_against_corners_and_wishes(self):
        source = random.Random(101)
        told = []
        for draw in draws_with_people(101, 25):
            for liars in sets_of(draw.people())[:12]:
                got = who_matters(draw=draw, liars=liars)
                others = [person for person in draw.people() if person not in liars]
                alone = [parts for parts, _ in corners(draw, liars)]
                for person in others:
                    together = list(liars) + [person]
                    due = [parts for parts, _ in corners(draw, together)] != alone
                    self.assertIs(matters(draw=draw, person=person, liars=liars), due)
                    self.assertIs(person in got, due)
                    told.append(due)
                    rises = [fraction(worth(draw, together, wish)) - fraction(worth(draw, liars, wish))
                             for wish in [random_wish(source, draw) for _ in range(4)]]
                    if not due:
                        self.assertEqual(set(rises), {Fraction(0)})
                self.assertEqual(got, [person for person in others if person in got])
                self.assertEqual(who_matters(draw, list(liars[::-1])), got)
        self.assertTrue(told.count(True) > 30 and told.count(False) > 30)

    def test_some_wish_shows_it(self):
        source = random.Random(102)
        for draw in draws_with_people(102, 15, names=("no", "yes")):
            if len(draw.ends()) != 2:
                continue
            for person in who_matters(draw):
                # With two names a person matters if one of them, or the other one, can be brought about more.
                rises = [gain(draw, [person], dict(zip(draw.ends(), numbers))) for numbers in ((0, 1), (1, 0))]
                self.assertTrue(any(rise != 0 for rise in rises))

    def test_by_hand(self):
        unseen = read_draw("sealed(ann 1/2 1/2 *0, bob 1/2 1/2 *0; no, yes, yes, no)")
        self.assertEqual([who_matters(unlike()), who_matters(unseen), who_matters(unlike(), ["ann"]), who_matters(unseen, ("ann",))],
                         [["ann", "bob"], [], [], ["bob"]])
        # Bob matters by a single wish only: one that tells the ends b and c apart.
        draw = read_draw("open(ann 1/2 1/2 *0; a, open(bob 1/2 1/2 *0; b, c))")
        self.assertEqual([matters(draw, "bob"), matters(draw, "bob", ["ann"]), matters(draw, "ann", liars=["bob"])], [True, True, True])
        idle = read_draw("held(ann 1/2 1/2 *0; a, open(bob 1/2 1/2 *0; b, b))")
        self.assertEqual([matters(idle, "bob"), matters(idle, "bob", ("ann",)), who_matters(idle)], [False, False, ["ann"]])

    def test_nobody_and_everybody(self):
        self.assertEqual([who_matters(End("no")), who_matters(End("no"), [])], [[], []])
        for draw in draws_with_people(103, 10):
            self.assertEqual(who_matters(draw, draw.people()), [])

    def test_errors(self):
        for value in ["eve", "no", "Ann", ["ann"], ("ann",), {"ann": 1}, ""] + wrong_values():
            assert_raises(self, NoPerson, "given", value, lambda: matters(unlike(), value, None))
            assert_raises(self, NoPerson, "given", value, lambda: matters(End("no"), value))
        for value in wrong_lists(["ann", "bob"]):
            assert_raises(self, BadLiars, "given", value, lambda: matters(unlike(), "ann", value))
            assert_raises(self, BadLiars, "given", value, lambda: who_matters(unlike(), value))
        for value in (["ann"], ("bob", "ann"), ["ann", "bob"]):
            assert_raises(self, BadLiars, "given", value, lambda: matters(unlike(), "ann", value))
        four = read_draw(FOUR_NAMES_TEXT)
        assert_raises(self, NoPerson, "given", "cid", lambda: matters(four, "cid", None))
        assert_raises(self, BadLiars, "given", STAKES, lambda: matters(four, "ann", STAKES))
        for call in (lambda: matters(four, "ann"), lambda: matters(four, "ann", ["bob"]), lambda: who_matters(four), lambda: who_matters(four, ["ann", "bob"])):
            with self.assertRaises(TooMany) as caught:
                call()
            self.assertEqual(caught.exception.count, 4)


class SetsTest(unittest.TestCase):
    def bounds(self, source, draw, wish, stake):
        """Bounds that are just reached, missed by a little, and far ones."""
        told = [worth(draw, liars, wish, stake=stake) for liars in sets_of(draw.people())]
        some = source.choice(told)
        return [some, some + Ratio(1, 10 ** 9), some - Ratio(1, 10 ** 9), -1000, 1000]

    def test_against_all_sets(self):
        source = random.Random(104)
        sizes = []
        for draw in draws_with_people(104, 30, names=("a", "b", "c", "d")):
            wish, stake = random_wish(source, draw), source.choice(STAKES)
            for bound in self.bounds(source, draw, wish, stake):
                enough = [liars for liars in sets_of(draw.people()) if fraction(worth(draw, liars, wish, stake=stake)) >= fraction(bound)]
                due = [liars for liars in enough if not any(set(other) < set(liars) for other in enough)]
                got = least_sets(draw=draw, wish=wish, bound=bound, stake=stake)
                self.assertEqual(got, due)
                sizes.append(len(got))
                self.assertTrue({type(liars) for liars in got} <= {tuple})
                needed = needed_people(draw=draw, wish=wish, bound=bound, stake=stake)
                idle = idle_people(draw=draw, wish=wish, bound=bound, stake=stake)
                if not enough:
                    self.assertEqual([needed, idle], [None, None])
                else:
                    self.assertEqual(needed, [person for person in draw.people() if all(person in liars for liars in enough)])
                    self.assertEqual(idle, [person for person in draw.people() if not any(person in liars for liars in due)])
                prices = {person: source.choice([0, 0, 1, 1, 2, Ratio(1, 2), Ratio(5, 2)]) for person in draw.people()}
                told = [(sum(fraction(prices[person]) for person in liars), liars) for liars in enough]
                got = cheapest_set(draw=draw, wish=wish, bound=bound, prices=prices, stake=stake)
                if not told:
                    self.assertIsNone(got)
                else:
                    least = min(price for price, _ in told)
                    first = next(liars for price, liars in told if price == least)
                    self.assertEqual([type(got), fraction(got[0]), type(got[0]), got[1]], [tuple, least, Ratio, first])
        self.assertGreater(max(sizes), 1)

    def test_without_a_stake_it_is_0(self):
        draw = read_draw(VOTES_TEXT)
        prices = {"ann": 1, "bob": 1, "cid": 1}
        for bound in (Ratio(1, 2), Ratio(3, 4), 1, Ratio(5, 4)):
            self.assertEqual(least_sets(draw, WIN, bound), least_sets(draw, WIN, bound, stake=0))
            self.assertEqual(needed_people(draw, WIN, bound), needed_people(draw, WIN, bound, stake=0))
            self.assertEqual(idle_people(draw, WIN, bound), idle_people(draw, WIN, bound, stake=0))
            self.assertEqual(cheapest_set(draw, WIN, bound, prices), cheapest_set(draw, WIN, bound, prices, stake=0))
        self.assertEqual([least_sets(unlike(), WIN, 1), needed_people(unlike(), WIN, 1), idle_people(unlike(), WIN, 1)],
                         [[("ann",), ("bob",)], [], []])
        self.assertEqual([needed_people(unlike(), WIN, 1, stake=1), cheapest_set(unlike(), WIN, 1, {"ann": 1, "bob": 1}),
                          cheapest_set(unlike(), WIN, 1, {"ann": 1, "bob": 1}, stake=1)],
                         [["ann", "bob"], (1, ("ann",)), (2, ("ann", "bob"))])
        self.assertEqual(parts_of_gain(unlike(), WIN, stake=Ratio(1, 2)), {"ann": Ratio(1, 4), "bob": Ratio(1, 4)})
        both = read_draw("open(cid 1/2 1/2 *0; no, held(ann 1/2 1/2 *0, bob 1/2 1/2 *0; no, yes, yes, no))")
        self.assertEqual([parts_of_gain(both, WIN)["cid"], parts_of_gain(both, WIN, stake=1)["cid"]],
                         [Ratio(5, 12), Ratio(1, 3)])
        self.assertEqual([least_sets(unlike(), WIN, 1, stake=1), least_sets(unlike(), WIN, Ratio(3, 4), stake=Ratio(1, 2))],
                         [[("ann", "bob")], [("ann",), ("bob",)]])

    def test_edges(self):
        end = End("no")
        self.assertEqual([least_sets(end, {"no": 2}, 2), least_sets(end, {"no": 2}, 3)], [[()], []])
        self.assertEqual([needed_people(end, {"no": 2}, 2), idle_people(end, {"no": 2}, 2), needed_people(end, {"no": 2}, 3)], [[], [], None])
        self.assertEqual([cheapest_set(end, {"no": 2}, 2, {}), cheapest_set(end, {"no": 2}, 3, {})], [(0, ()), None])
        self.assertEqual([least_sets(unlike(), WIN, -5), needed_people(unlike(), WIN, -5), idle_people(unlike(), WIN, -5)], [[()], [], ["ann", "bob"]])
        self.assertEqual(cheapest_set(unlike(), WIN, 1, {"ann": 0, "bob": 0}), (0, ("ann",)))
        self.assertEqual(cheapest_set(unlike(), WIN, 1, {"ann": 1, "bob": Ratio(1, 2)}), (Ratio(1, 2), ("bob",)))
        self.assertEqual(cheapest_set(unlike(), WIN, Ratio(1, 2), {"ann": 0, "bob": 0}), (0, ()))

    def test_errors(self):
        calls = (least_sets, needed_people, idle_people)
        for value in wrong_wishes(["no", "yes"]):
            for call in calls:
                assert_raises(self, BadWish, "given", value, lambda: call(unlike(), value, None, stake=None))
            assert_raises(self, BadWish, "given", value, lambda: cheapest_set(unlike(), value, None, None, stake=None))
        for value in ["1", "1/2", [1], (1,)] + [value for value in wrong_values() if not is_number(value)]:
            for call in calls:
                assert_raises(self, BadNumber, "given", value, lambda: call(unlike(), WIN, value, stake=None))
            assert_raises(self, BadNumber, "given", value, lambda: cheapest_set(unlike(), WIN, value, None, stake=None))
        for value in wrong_prices(["ann", "bob"]):
            assert_raises(self, BadPrices, "given", value, lambda: cheapest_set(unlike(), WIN, 1, value, stake=None))
        for value in wrong_amounts():
            for call in calls:
                assert_raises(self, BadStake, "given", value, lambda: call(unlike(), WIN, 1, stake=value))
            assert_raises(self, BadStake, "given", value, lambda: cheapest_set(unlike(), WIN, 1, {"ann": 0, "bob": 0}, stake=value))


class PartsTest(unittest.TestCase):
    def test_all_orders(self):
        source = random.Random(105)
        for draw in draws_with_people(105, 25, names=("a", "b", "c", "d")):
            wish, stake = random_wish(source, draw), source.choice(STAKES)
            told = {liars: fraction(worth(draw, liars, wish, stake=stake)) for liars in sets_of(draw.people())}
            due = {person: Fraction(0) for person in draw.people()}
            orders = list(permutations(draw.people()))
            for order in orders:
                for at, person in enumerate(order):
                    due[person] += (told[tuple(sorted(order[:at + 1]))] - told[tuple(sorted(order[:at]))]) / len(orders)
            got = parts_of_gain(draw=draw, wish=wish, stake=stake)
            self.assertEqual([(person, fraction(got[person])) for person in got], list(due.items()))
            self.assertTrue({type(part) for part in got.values()} <= {Ratio})
            self.assertEqual(total(list(got.values())), gain(draw, draw.people(), wish, stake=stake))
            bounds = {number for number in told.values()}
            for person in draw.people():
                asked = [least_sets(draw, wish, Ratio(bound.numerator, bound.denominator), stake=stake) for bound in bounds]
                if not any(person in liars for sets in asked for liars in sets):
                    self.assertEqual(got[person], 0)

    def test_by_hand(self):
        self.assertEqual(parts_of_gain(unlike(), WIN), {"ann": Ratio(1, 4), "bob": Ratio(1, 4)})
        self.assertEqual(parts_of_gain(End("no"), {"no": 3}), {})
        draw = read_draw("open(ann 1/2 1/2 *0; no, open(bob 1/2 1/2 *0; no, yes))")
        self.assertEqual(parts_of_gain(draw, WIN), {"ann": Ratio(3, 8), "bob": Ratio(3, 8)})
        self.assertEqual(parts_of_gain(draw, WIN, stake=5), parts_of_gain(draw, WIN))

    def test_six_people(self):
        names = ["ann", "bob", "cid", "dan", "eve", "fay"]
        text = "yes"
        for name in names:
            text = "open(%s 1/2 1/2 *0; no, %s)" % (name, text)
        got = parts_of_gain(read_draw(text), WIN)
        self.assertEqual([list(got), len(set(part.text() for part in got.values()))], [names, 1])
        self.assertEqual(got["ann"], Ratio(63, 64 * 6))

    def test_errors(self):
        for value in wrong_wishes(["no", "yes"]):
            assert_raises(self, BadWish, "given", value, lambda: parts_of_gain(unlike(), value, stake=None))
        for value in wrong_amounts():
            assert_raises(self, BadStake, "given", value, lambda: parts_of_gain(unlike(), WIN, stake=value))

    def test_arguments_stay_and_results_are_new(self):
        draw, wish, prices = unlike(), {"yes": 1, "no": 0}, {"bob": 1, "ann": 2}
        text = draw.text()
        first = [least_sets(draw, wish, 1), needed_people(draw, wish, 0), idle_people(draw, wish, 0), who_matters(draw), parts_of_gain(draw, wish)]
        again = [least_sets(draw, wish, 1), needed_people(draw, wish, 0), idle_people(draw, wish, 0), who_matters(draw), parts_of_gain(draw, wish)]
        self.assertEqual(first, again)
        for told in first:
            told.clear()
        first = [least_sets(draw, wish, 1), needed_people(draw, wish, 0), idle_people(draw, wish, 0), who_matters(draw), parts_of_gain(draw, wish)]
        self.assertEqual(first, again)
        cheapest_set(draw, wish, 1, prices)
        self.assertEqual([draw.text(), list(wish.items()), list(prices.items())], [text, [("yes", 1), ("no", 0)], [("bob", 1), ("ann", 2)]])

    def test_large_numbers(self):
        source = random.Random(106)
        for _ in range(5):
            wish = {name: random_number(source) * Ratio(10 ** 98 + 7, 10 ** 97 + 9) for name in ("no", "yes")}
            got = parts_of_gain(unlike(), wish, stake=Ratio(1, 10 ** 99))
            self.assertEqual(total(list(got.values())), gain(unlike(), ["ann", "bob"], wish, stake=Ratio(1, 10 ** 99)))


if __name__ == "__main__":
    unittest.main()
