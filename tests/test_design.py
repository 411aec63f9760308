import random
import unittest
from itertools import product

from jointdraws.built import of_kind, replaced
from jointdraws.design import best_stand_ins, cheapest, is_safe, weak_spot
from jointdraws.draws import End, Round, read_draw
from jointdraws.errors import BadCount, BadNumber, BadPrices, BadStake, TooMany
from jointdraws.ratios import Ratio
from jointdraws.worths import gain
from tests.brute import KINDS, SMALL_TEXTS, random_draw, sets_of
from tests.samples import (
    MIXED_TEXT, MORE_TEXT, TURNS_TEXT, assert_raises, fraction, unlike, wrong_amounts, wrong_counts, wrong_values)

SAFE_LIMITS = [0, Ratio(1, 4), Ratio(1, 3), Ratio(1, 2), 1]


def names_and_sets(draw, most):
    return [(liars, name) for liars in sets_of(draw.people()) if len(liars) <= most for name in draw.ends()]


def gain_of(draw, liars, name, stake):
    return fraction(gain(draw, liars, {each: int(each == name) for each in draw.ends()}, stake=stake))


def first_weak(draw, most, limit, stake):
    for liars, name in names_and_sets(draw, most):
        found = gain_of(draw, liars, name, stake)
        if found > fraction(limit):
            return liars, name, found
    return None


def greatest_gain(draw, most, stake):
    return max(gain_of(draw, liars, name, stake) for liars, name in names_and_sets(draw, most))


def pieces_of(draw):
    """The draw as nested lists, so that each round of its text can be changed by itself."""
    if isinstance(draw, End):
        return draw.name
    return [draw.kind, [list(giver) for giver in draw.givers], [pieces_of(further) for further in draw.draws]]


def rounds_in(pieces):
    """The rounds in the order of the text."""
    if isinstance(pieces, str):
        return []
    return [pieces] + [here for further in pieces[2] for here in rounds_in(further)]


def put_together(pieces):
    if isinstance(pieces, str):
        return End(pieces)
    return Round(pieces[0], [tuple(giver) for giver in pieces[1]], [put_together(further) for further in pieces[2]])


def all_of_kinds(draw, kinds):
    """All draws with some kinds for the rounds, in the order of point 132, with the lists of the kinds."""
    pieces = pieces_of(draw)
    found = []
    for words in product(kinds, repeat=len(rounds_in(pieces))):
        for here, word in zip(rounds_in(pieces), words):
            here[0] = word
        found.append((words, put_together(pieces)))
    return found


def all_stand_ins(draw):
    """All draws with other stand-ins in held and last rounds, in the order of point 133."""
    pieces = pieces_of(draw)
    givers = [giver for here in rounds_in(pieces) if here[0] in ("held", "last") for giver in here[1]]
    found = []
    for row in product(*[range(len(giver[1])) for giver in givers]):
        for giver, stand_in in zip(givers, row):
            giver[2] = stand_in
        found.append(put_together(pieces))
    return found


def some_draws(seed, many, depth=2):
    source = random.Random(seed)
    texts = ["no", MORE_TEXT, MIXED_TEXT, TURNS_TEXT] + SMALL_TEXTS[5:8]
    draws = [read_draw(text) for text in texts] + [unlike()]
    return draws + [random_draw(source, depth, ["no", "yes", "maybe"]) for _ in range(many)]


class SafeTest(unittest.TestCase):
    def test_all_sets_and_names(self):
        source = random.Random(131)
        for draw in some_draws(131, 20, 3):
            for most in range(len(draw.people()) + 1):
                limit, stake = source.choice(SAFE_LIMITS), source.choice([0, 0, 1, Ratio(1, 5)])
                due = first_weak(draw, most, limit, stake)
                told = weak_spot(draw=draw, most=most, limit=limit, stake=stake)
                self.assertIs(is_safe(draw=draw, most=most, limit=limit, stake=stake), due is None)
                self.assertEqual(told if told is None else (told[0], told[1], fraction(told[2])), due)
                self.assertTrue(told is None or isinstance(told, tuple) and isinstance(told[2], Ratio))

    def test_limit_just_kept(self):
        self.assertEqual(weak_spot(unlike(), 1, Ratio(49, 100)), (("ann",), "no", Ratio(1, 2)))
        self.assertIsNone(weak_spot(unlike(), 1, Ratio(1, 2)))
        self.assertEqual([is_safe(unlike(), 0, 0), is_safe(unlike(), 2, 0, stake=10 ** 9), is_safe(unlike(), 1, 0, stake=1)], [True, False, True])
        self.assertEqual([is_safe(unlike(), 1, 0, stake=Ratio(99, 100)), is_safe(End("no"), 0, 0)], [False, True])

    def test_errors(self):
        for ask in (is_safe, weak_spot):
            for value in wrong_counts(2):
                assert_raises(self, BadCount, "given", value, lambda: ask(unlike(), value, None, stake=None))
            for value in wrong_amounts():
                assert_raises(self, BadNumber, "given", value, lambda: ask(unlike(), 1, value, stake=None))
                assert_raises(self, BadStake, "given", value, lambda: ask(unlike(), 2, 0, stake=value))


class CheapestTest(unittest.TestCase):
    def test_all_draws_to_choose_from(self):
        source = random.Random(132)
        found = {None: 0}
        for draw in some_draws(132, 25):
            kinds = source.choice([KINDS, KINDS, ["open", "sealed"], ["held", "last"], ["sealed", "held"], ["last"]])
            if len(kinds) ** len(rounds_in(pieces_of(draw))) > 300:
                kinds = kinds[:2]
            prices = {kind: source.choice([0, 1, 1, 2, Ratio(1, 2), Ratio(5, 3)]) for kind in sorted(kinds)}
            most, limit, stake = min(1, len(draw.people())), source.choice(SAFE_LIMITS), source.choice([0, 1, Ratio(1, 4)])
            told = cheapest(draw=draw, prices=prices, most=most, limit=limit, stake=stake)
            best = None
            for words, changed in all_of_kinds(draw, [kind for kind in ["open", "sealed", "held", "last"] if kind in kinds]):
                price = sum(fraction(prices[word]) for word in words)
                if (best is None or price < best[0]) and first_weak(changed, most, limit, stake) is None:
                    best = (price, changed)
            found[None] += best is None
            if best is None:
                self.assertIsNone(told)
            else:
                self.assertIsInstance(told[0], Ratio)
                self.assertEqual((fraction(told[0]), told[1].text()), (best[0], best[1].text()))
        self.assertGreater(found[None], 0)

    def test_prices_that_are_alike(self):
        # All are as cheap, so the first kind of the order counts that is safe.
        draw = read_draw("last(ann 1/2 1/2 *0; open(bob 1/2 1/2 *0; no, no), held(bob 1/2 1/2 *0; yes, yes))")
        for number in (0, Ratio(1, 3)):
            price, told = cheapest(draw, {"last": number, "held": number, "sealed": number, "open": number}, 0, 0)
            self.assertEqual((price, told), (number * 3, of_kind(draw, "open")))
            price, told = cheapest(draw, {"held": number, "last": number}, 2, 1)
            self.assertEqual((price, told), (number * 3, of_kind(draw, "held")))
        price, told = cheapest(unlike(), {"held": 1, "last": 1, "open": 1}, 1, 0, stake=1)
        self.assertEqual((price, told.kind), (1, "held"))
        self.assertEqual(cheapest(End("no"), {"held": 3}, 0, 0), (0, End("no")))

    def test_one_price_and_many_rounds(self):
        draw = read_draw("open(ann 1/2 1/2 *0; a, b)")
        for _ in range(5):
            draw = replaced(draw, "a", draw)
        for _ in range(3):
            draw = replaced(draw, "b", draw)
        price, told = cheapest(draw, {"sealed": Ratio(1, 2)}, 1, 1)
        self.assertEqual((price.below(10 ** 6), told == of_kind(draw, "sealed")), (False, True))
        self.assertIsNone(cheapest(draw, {"sealed": 1}, 1, 0))

    def test_as_many_as_can_be(self):
        five = read_draw("open(ann 1/2 1/2 *0; open(ann 1/2 1/2 *0; a, b), open(ann 1/2 1/2 *0; open(ann 1/2 1/2 *0; a, b), open(ann 1/2 1/2 *0; a, b)))")
        four = {"open": 1, "sealed": 2, "held": 1, "last": 1}
        self.assertEqual(cheapest(five, four, 1, 1)[0], 5)
        six = replaced(five, "a", End("a")).at(())
        six = Round("open", six.givers, [six.draws[0], Round("sealed", six.givers, [End("a"), six.draws[1]])])
        for prices, count in ((four, 4 ** 6), ({**four, "last": 0}, 4 ** 6)):
            with self.assertRaises(TooMany) as caught:
                cheapest(six, prices, 1, 0)
            self.assertEqual(caught.exception.count, count)
        self.assertEqual(cheapest(six, {"open": 1, "held": 0, "last": 3}, 0, 0)[0], 0)

    def test_errors(self):
        wrong = [{}, {"open": -1}, {"open": True}, {"open": None}, {"open": 1, "round": 2}, {"Open": 1}, {0: 1}, {"open": Ratio(-1, 5)},
                 {"open": "1"}, {"open": 1, "sealed": 1, "held": 1, "last": [1]}, [("open", 1)], ["open"], "open", {("open",): 1},
                 {"open": 1, "sealed": 1, "held": 1, "last": 1, "more": 1}]
        for value in wrong + wrong_values():
            assert_raises(self, BadPrices, "given", value, lambda: cheapest(unlike(), value, None, None, stake=None))
        prices = {"open": 0}
        for value in wrong_counts(2):
            assert_raises(self, BadCount, "given", value, lambda: cheapest(unlike(), prices, value, None, stake=None))
        large = read_draw("open(ann 1/2 1/2 *0; %s, %s)" % ((MIXED_TEXT,) * 2))
        for _ in range(2):
            large = Round("open", large.givers, [large, large])
        for value in wrong_amounts():
            assert_raises(self, BadNumber, "given", value, lambda: cheapest(large, {"open": 0, "held": 1}, 1, value, stake=None))
            assert_raises(self, BadStake, "given", value, lambda: cheapest(large, {"open": 0, "held": 1}, 1, 0, stake=value))
        with self.assertRaises(TooMany) as caught:
            cheapest(large, {"open": 0, "held": 1}, 1, 0)
        self.assertEqual(caught.exception.count, 2 ** 23)


class StandInsTest(unittest.TestCase):
    def test_all_draws_to_choose_from(self):
        source = random.Random(133)
        for draw in some_draws(133, 25):
            most, stake = source.randrange(len(draw.people()) + 1), source.choice([0, 0, 1, Ratio(1, 4)])
            if len(all_stand_ins(draw)) > 100:
                continue
            best = None
            for changed in all_stand_ins(draw):
                found = greatest_gain(changed, most, stake)
                if best is None or found < best[0]:
                    best = (found, changed.text())
            told = best_stand_ins(draw=draw, most=most, stake=stake)
            self.assertEqual((fraction(told[0]), told[1].text()), best)
            self.assertIsInstance(told[0], Ratio)

    def test_open_and_sealed_rounds_stay(self):
        draw = read_draw("sealed(ann 1/2 1/2 *1; open(bob 1/2 1/2 *1; no, yes), held(bob 1/4 3/4 *0; no, yes))")
        self.assertEqual(best_stand_ins(draw, 0), (0, read_draw(draw.text())))
        self.assertEqual(best_stand_ins(End("a"), 0), (0, End("a")))
        often = read_draw("open(ann 1/2 1/2 *1; no, yes)")
        for _ in range(5):
            often = replaced(often, "no", replaced(often, "yes", often))
        large = Round("sealed", [("cid", [Ratio(1, 2), Ratio(1, 2)], 1)], [often, draw])
        changed = Round("sealed", large.givers, [often, read_draw(draw.text().replace("3/4 *0", "3/4 *1"))])
        self.assertEqual(best_stand_ins(large, 0), (0, Round("sealed", large.givers, [often, draw])))
        for stake in (0, Ratio(1, 9), 1):
            due = min((greatest_gain(one, 1, stake), at) for at, one in enumerate([large, changed]))
            told = best_stand_ins(large, 1, stake=stake)
            self.assertEqual((fraction(told[0]), told[1] == [large, changed][due[1]]), (due[0], True))

    def test_as_many_as_can_be(self):
        giver = "ann 1/4 1/4 1/4 1/4 *%d"
        text = "held(%s; a, b, a, %s)"
        draw = text % (giver % 0, "b")
        for at in range(4):
            draw = text % (giver % (at % 4), draw)
        self.assertEqual(best_stand_ins(read_draw(draw), 1, stake=100)[1].text(), draw.replace("*1", "*0").replace("*2", "*0").replace("*3", "*0"))
        more = read_draw(text % (giver % 3, draw))
        with self.assertRaises(TooMany) as caught:
            best_stand_ins(more, 1)
        self.assertEqual(caught.exception.count, 4 ** 6)
        # Open and sealed rounds have no stand-ins to choose from.
        self.assertEqual(best_stand_ins(of_kind(more, "sealed"), 0), (0, of_kind(more, "sealed")))

    def test_errors(self):
        many = read_draw("held(ann 1/2 1/2 *0; %s, %s)" % ((MIXED_TEXT,) * 2))
        many = Round("last", many.givers, [many, many])
        many = Round("last", many.givers, [many, many])
        for value in wrong_counts(3):
            assert_raises(self, BadCount, "given", value, lambda: best_stand_ins(many, value, stake=None))
        for value in wrong_amounts():
            assert_raises(self, BadStake, "given", value, lambda: best_stand_ins(many, 1, stake=value))
        with self.assertRaises(TooMany) as caught:
            best_stand_ins(many, 1)
        # Seven rounds of one giver, and eight of two.
        self.assertEqual(caught.exception.count, 2 ** (7 + 16))


class KeptTest(unittest.TestCase):
    def test_arguments_stay_as_they_were(self):
        prices = {"open": 1, "sealed": Ratio(1, 2)}
        draw = read_draw(MIXED_TEXT)
        first = cheapest(draw, prices, 1, 1)
        self.assertEqual(prices, {"open": 1, "sealed": Ratio(1, 2)})
        prices["open"] = 0
        self.assertEqual(first, cheapest(draw, {"sealed": Ratio(1, 2), "open": 1}, 1, 1))
        self.assertEqual(draw.text(), MIXED_TEXT)


if __name__ == "__main__":
    unittest.main()
