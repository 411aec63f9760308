import random
import unittest
from fractions import Fraction

from jointdraws.built import of_kind
from jointdraws.cards import best_draws, card, draw_within, is_as_good, is_better, least_bias
from jointdraws.draws import End, Round, read_draw
from jointdraws.errors import BadBounds, BadCount, BadNames, NotTurns
from jointdraws.force import forces
from jointdraws.honest import is_turns
from jointdraws.ratios import Ratio
from jointdraws.worths import worth
from tests.brute import PEOPLE, sets_of
from tests.samples import FAIR, TURNS_TEXT, assert_raises, fraction, many_draws, unlike, wrong_counts, wrong_values

THREE = ["ann", "bob", "cid"]
BATON = "open(ann 1/2 1/2 *0; open(bob 1/2 1/2 *0; no, yes), open(cid 1/2 1/2 *0; no, yes))"
# How many people and which depth can be asked for; what comes of them is reckoned here without leaving anything out.
SIZES = [(1, 0), (1, 1), (1, 2), (1, 3), (2, 0), (2, 1), (2, 2), (2, 3), (3, 0), (3, 1), (3, 2), (3, 3), (4, 0), (4, 1), (4, 2)]


def numbers_of(draw, people):
    """The numbers of the card, one set after the other, gone through from the first turn on."""
    sets = sets_of(people)
    if isinstance(draw, End):
        return tuple(Fraction(int(draw.name == name)) for _ in sets for name in ("no", "yes"))
    one, other = [numbers_of(further, people) for further in draw.draws]
    return joined(draw.givers[0][0], sets, one, other)


def joined(person, sets, one, other):
    pairs = list(zip(one, other))
    return tuple(max(pairs[at]) if person in sets[at // 2] else sum(pairs[at]) / 2 for at in range(len(pairs)))


def all_cards(people, depth):
    """The numbers of the cards of all draws of fair turns with at most a depth."""
    sets = sets_of(people)
    ends = {numbers_of(End(name), people) for name in ("no", "yes")}
    cards = set(ends)
    for _ in range(depth):
        cards = ends | {joined(person, sets, one, other) for person in people for one in cards for other in cards}
    return cards


def are_at_most(some, others):
    return all(number <= other for number, other in zip(some, others))


def flat(told):
    return tuple(fraction(number) for pair in told.values() for number in pair)


def random_fair(source, depth, people):
    if depth == 0 or source.random() < 0.15:
        return End(source.choice(["no", "yes"]))
    draws = [random_fair(source, depth - 1, people) for _ in range(2)]
    return Round("open", [(source.choice(people), FAIR, source.randrange(2))], draws)


class CardTest(unittest.TestCase):
    def test_against_worths(self):
        source = random.Random(111)
        for _ in range(50):
            many = source.randrange(1, 5)
            people = source.sample(PEOPLE, many)
            draw = random_fair(source, source.randrange(5), people)
            got = card(draw=draw, people=people)
            self.assertEqual(list(got), sets_of(people))
            self.assertEqual({(type(pair), type(pair[0]), type(pair[1])) for pair in got.values()}, {(tuple, Ratio, Ratio)})
            self.assertEqual(flat(got), numbers_of(draw, people))
            for some in got:
                there = [person for person in some if person in draw.people()]
                for name, number in zip(("no", "yes"), got[some]):
                    wish = {end: int(end == name) for end in draw.ends()}
                    self.assertEqual(worth(draw, there, wish), number)
                    self.assertIs(number == 1, name in draw.ends() and forces(draw, there, [name]))
                others = tuple(sorted(set(people) - set(some)))
                for mine, yours in zip(got[some], got[others][::-1]):
                    self.assertFalse((mine + yours).below(1))
            self.assertEqual(card(draw, tuple(people[::-1])), got)
            self.assertEqual(list(card(draw, people[::-1])), list(got))

    def test_by_the_first_turn(self):
        source = random.Random(112)
        for _ in range(20):
            one, other = random_fair(source, 3, THREE), random_fair(source, 2, THREE)
            draw = Round("open", [("bob", FAIR, 1)], [one, other])
            mine, yours, got = card(one, THREE), card(other, THREE), card(draw, THREE)
            for some in got:
                for at in (0, 1):
                    pair = [mine[some][at], yours[some][at]]
                    due = max(fraction(number) for number in pair) if "bob" in some else fraction(pair[0] + pair[1]) / 2
                    self.assertEqual(fraction(got[some][at]), due)

    def test_ends_and_others(self):
        self.assertEqual(card(End("no"), ["ann"]), {(): (1, 0), ("ann",): (1, 0)})
        self.assertEqual(card(End("yes"), ("bob", "ann")), {(): (0, 1), ("ann",): (0, 1), ("bob",): (0, 1), ("ann", "bob"): (0, 1)})
        got = card(read_draw("open(bob 1/2 1/2 *0; no, yes)"), ["zoe", "bob"])
        self.assertEqual([got[("zoe",)], got[("bob", "zoe")]], [(Ratio(1, 2), Ratio(1, 2)), (1, 1)])

    def test_deep_draws(self):
        draw = End("yes")
        for step in range(250):
            draw = Round("open", [("abc"[step % 3], FAIR, 0)], [End("no"), draw])
        got = card(draw, ["a", "b", "c", "d"])
        self.assertEqual([got[("a", "b", "c")], got[("a", "d")]], [(1, 1), (1, Ratio(1, 2 ** 166))])

    def test_not_of_fair_turns(self):
        wrong = ["maybe", "open(ann 1/2 1/2 *0; no, maybe)", "open(ann 1/3 2/3 *0; no, yes)", "open(ann 1/3 1/3 1/3 *0; no, yes, no)",
                 "sealed(ann 1/2 1/2 *0; no, yes)", "last(ann 1/2 1/2 *0; no, yes)", "open(ann 1/4 1/4 1/4 1/4 *0; no, yes, no, yes)",
                 "open(ann 1/2 1/2 *0, bob 1/2 1/2 *0; no, yes, yes, no)", BATON.replace("bob 1/2 1/2", "bob 1/4 3/4"),
                 BATON.replace("open(cid", "held(cid"), BATON[:-4] + "a))"]
        good = read_draw(BATON)
        for draw in [read_draw(text) for text in wrong] + [draw for draw in many_draws()[1:] if not is_turns(draw)] + [of_kind(good, "held")]:
            assert_raises(self, NotTurns, None, None, lambda: card(draw, None))
            for call in (is_as_good, is_better):
                assert_raises(self, NotTurns, None, None, lambda: call(draw, good, None))
                assert_raises(self, NotTurns, None, None, lambda: call(good, draw, THREE))

    def test_bad_names(self):
        good = read_draw(BATON)
        wrong = [["ann", "bob"], ["ann", "bob", "zoe"], THREE + ["dan", "eve"], THREE + ["ann"], THREE + ["Dan"], THREE + [None], THREE + [""],
                 THREE + [["dan"]], [], (), "ann", {"ann": 1, "bob": 1, "cid": 1}, THREE + [1], ["ann", "bob", "cid", "toolongname"]]
        for value in wrong + wrong_values():
            assert_raises(self, BadNames, "given", value, lambda: card(good, value))
            for call in (is_as_good, is_better):
                assert_raises(self, BadNames, "given", value, lambda: call(good, End("no"), value))
                assert_raises(self, BadNames, "given", value, lambda: call(End("no"), good, value))
        five = read_draw("open(eve 1/2 1/2 *0; %s, open(dan 1/2 1/2 *0; no, yes))" % BATON)
        assert_raises(self, BadNames, "given", PEOPLE, lambda: card(five, PEOPLE))


class BetterTest(unittest.TestCase):
    def test_random_draws(self):
        source = random.Random(113)
        as_good = better = 0
        for _ in range(150):
            people = source.sample(PEOPLE, source.randrange(1, 5))
            one, other = [random_fair(source, source.randrange(4), people) for _ in range(2)]
            if source.random() < 0.5:
                other = random_fair(source, 2, people)
                one = next(best for best in best_draws(people, 2) if are_at_most(numbers_of(best, people), numbers_of(other, people)))
            mine, yours = numbers_of(one, people), numbers_of(other, people)
            self.assertIs(is_as_good(one=one, other=other, people=people), are_at_most(mine, yours))
            self.assertIs(is_better(one=one, other=other, people=people), are_at_most(mine, yours) and mine != yours)
            self.assertEqual([is_as_good(one, one, people), is_better(one, one, tuple(people))], [True, False])
            as_good += are_at_most(mine, yours)
            better += are_at_most(mine, yours) and mine != yours
        self.assertTrue(as_good > better > 3, (as_good, better))

    def test_people_of_one_of_both(self):
        one, other = read_draw("open(ann 1/2 1/2 *0; no, yes)"), read_draw("open(bob 1/2 1/2 *0; no, yes)")
        self.assertEqual([is_as_good(one, other, ["ann", "bob"]), is_better(one, other, ["bob", "ann"])], [False, False])
        padded = read_draw("open(bob 1/2 1/2 *0; open(ann 1/2 1/2 *0; no, yes), open(ann 1/2 1/2 *0; no, yes))")
        self.assertEqual([is_as_good(padded, one, ["ann", "bob"]), is_better(padded, one, ["ann", "bob"])], [True, False])


class BestDrawsTest(unittest.TestCase):
    def test_against_all_cards(self):
        for many, depth in SIZES:
            people = PEOPLE[:many]
            told = all_cards(people, depth)
            # What is better has less in sum.
            due = []
            for numbers in sorted(told, key=sum):
                if not any(are_at_most(other, numbers) for other in due):
                    due.append(numbers)
            got = best_draws(people=people, depth=depth)
            self.assertEqual([numbers_of(draw, people) for draw in got], sorted(due), (many, depth))
            for draw in got:
                self.assertIs(is_turns(draw), True)
                self.assertTrue(draw.depth() <= depth and set(draw.people()) <= set(people) and set(draw.ends()) <= {"no", "yes"})
                card(draw, people)
            self.assertEqual(best_draws(tuple(people[::-1]), depth), got)

    def test_for_each_draw_one_is_as_good(self):
        source = random.Random(114)
        for people, depth in ((THREE, 3), (PEOPLE, 2), (["x", "b"], 3)):
            best = best_draws(people, depth)
            for _ in range(25):
                draw = random_fair(source, depth, people)
                self.assertTrue(any(is_as_good(one, draw, people) for one in best))
                self.assertFalse(any(is_better(draw, one, people) for one in best))

    def test_by_hand(self):
        self.assertEqual([draw.text() for draw in best_draws(["ann"], 0)], ["yes", "no"])
        got = best_draws(["ann"], 1)
        self.assertEqual([got[0], got[2], len(got), got[1].people()], [End("yes"), End("no"), 3, ["ann"]])

    def test_errors(self):
        wrong = [[], (), PEOPLE + ["eve"], ["ann", "ann"], ["Ann"], ["ann", None], "ann", {"ann": 1}, [["ann"]], [""], [1]]
        for value in wrong + [value for value in wrong_values() if value not in (["ann"], ("no",))]:
            assert_raises(self, BadNames, "given", value, lambda: best_draws(value, None))
            assert_raises(self, BadNames, "given", value, lambda: draw_within(value, None, None))
            assert_raises(self, BadNames, "given", value, lambda: least_bias(value, None, None))
        for people, most in ((["ann"], 3), (["ann", "bob"], 3), (THREE, 3), (PEOPLE, 2)):
            for value in wrong_counts(most):
                assert_raises(self, BadCount, "given", value, lambda: best_draws(people, value))
                assert_raises(self, BadCount, "given", value, lambda: draw_within(people, value, None))
                assert_raises(self, BadCount, "given", value, lambda: least_bias(people, value, None))


class BoundsTest(unittest.TestCase):
    def test_against_all_cards(self):
        source = random.Random(115)
        some = none = 0
        for many, depth in SIZES:
            people = PEOPLE[:many]
            sets = sets_of(people)
            told = sorted(all_cards(people, depth))
            for _ in range(6):
                chosen = source.choice(told)
                step = source.choice([0, 0, Fraction(-1, 10 ** 9), Fraction(1, 3), Fraction(-1, 8)])
                bounds = {}
                for at, some_people in enumerate(sets):
                    if source.random() < 0.6:
                        pair = [chosen[2 * at] + source.choice([0, step]), chosen[2 * at + 1] + source.choice([0, step])]
                        bounds[some_people] = tuple(Ratio(number.numerator, number.denominator) for number in pair)

                def keeps(numbers):
                    return all(numbers[2 * sets.index(key) + at] <= fraction(bounds[key][at]) for key in bounds for at in (0, 1))

                got = draw_within(people=people, depth=depth, bounds=bounds)
                if got is None:
                    none += 1
                    self.assertFalse(any(keeps(numbers) for numbers in told))
                else:
                    some += 1
                    self.assertTrue(keeps(numbers_of(got, people)))
                    self.assertTrue(got.depth() <= depth and set(got.people()) <= set(people))
                    card(got, people)
        self.assertTrue(some > 10 and none > 5, (some, none))

    def test_edges(self):
        self.assertIsNotNone(draw_within(THREE, 0, {}))
        self.assertIsNone(draw_within(THREE, 3, {(): (0, Ratio(1, 2))}))
        self.assertIsNone(draw_within(THREE, 2, {(): (-1, 5)}))
        self.assertEqual(draw_within(["ann"], 0, {(): (0, 1)}), End("yes"))
        self.assertEqual(draw_within(["ann"], 1, {("ann",): (10 ** 99, Ratio(1, 2))}), End("no"))
        half = Ratio(1, 2)
        self.assertEqual(draw_within(THREE, 1, {(): (half, half), ("ann",): (half, half), ("bob",): (half, half)}).people(), ["cid"])
        tight = {("ann", "bob"): (half, half), ("bob",): (half, half)}
        self.assertEqual(draw_within(["cid", "bob", "ann"], 1, tight).people(), ["cid"])
        little = Ratio(1, 10 ** 50)
        self.assertIsNone(draw_within(THREE, 3, {(): (half, half - little)}))

    def test_bad_bounds(self):
        half = Ratio(1, 2)
        wrong = [None, [], (), "ann", {("zoe",): (1, 1)}, {("bob", "ann"): (1, 1)}, {"ann": (1, 1)}, {("ann",): (1,)}, {("ann",): (1, 1, 1)},
                 {("ann",): [1, 1]}, {("ann",): (1, True)}, {("ann",): (None, 1)}, {("ann",): ("1", 1)}, {("ann",): 1}, {("ann",): half},
                 {(): (1, 1), ("ann", "ann"): (1, 1)}, {0: (1, 1)}, {("ann",): ((1,), 1)}, {("ann",): (1, End("a"))}, [(("ann",), (1, 1))],
                 {("ann", "bob", "cid", "dan"): (1, 1)}, {(): (1, 1), None: (1, 1)}]
        for value in wrong + [value for value in wrong_values() if value != {}]:
            assert_raises(self, BadBounds, "given", value, lambda: draw_within(THREE, 1, value))

    def test_least_bias(self):
        for many, depth in SIZES:
            people = PEOPLE[:many]
            sets = sets_of(people)
            told = all_cards(people, depth)
            for most in range(many + 1):
                places = [at for at in range(2 * len(sets)) if len(sets[at // 2]) <= most]
                due = min(max(numbers[at] for at in places) for numbers in told)
                got = least_bias(people=people, depth=depth, most=most)
                self.assertEqual([type(got), fraction(got[0]), type(got[0])], [tuple, due, Ratio], (many, depth, most))
                first = next(draw for draw in best_draws(people, depth) if max(numbers_of(draw, people)[at] for at in places) == due)
                self.assertEqual(got[1], first)

    def test_bad_counts(self):
        for people, depth in ((["ann"], 1), (THREE, 2), (PEOPLE, 1)):
            for value in wrong_counts(len(people)):
                assert_raises(self, BadCount, "given", value, lambda: least_bias(people, depth, value))

    def test_arguments_stay_and_results_are_new(self):
        people, bounds = ["cid", "ann", "bob"], {("ann",): (1, 1)}
        draw = read_draw(BATON)
        first, told = best_draws(people, 2), card(draw, people)
        texts, kept = [one.text() for one in first], dict(told)
        first.clear()
        told.clear()
        draw_within(people, 2, bounds)
        least_bias(people, 2, 1)
        self.assertEqual([[one.text() for one in best_draws(people, 2)], card(draw, people)], [texts, kept])
        self.assertEqual([people, bounds, draw.text()], [["cid", "ann", "bob"], {("ann",): (1, 1)}, BATON])

    def test_turns_with_other_stand_ins(self):
        # The stand-in does not count in open rounds.
        self.assertEqual(card(read_draw(TURNS_TEXT), ["ann", "bob"]), card(read_draw(TURNS_TEXT.replace("*0", "*1")), ["ann", "bob"]))
        assert_raises(self, NotTurns, None, None, lambda: card(unlike(), ["ann", "bob"]))


if __name__ == "__main__":
    unittest.main()
