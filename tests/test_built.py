import random
import unittest
from itertools import product

from jointdraws.built import lean, of_kind, repeated, replaced, with_ends, with_people
from jointdraws.draws import End, Round, read_draw, rounds_of
from jointdraws.errors import BadCount, BadKind, BadNames, NoEnd, TooMany, Twice
from jointdraws.honest import honest_shares
from jointdraws.plans import count_plans
from jointdraws.ratios import Ratio
from jointdraws.stakes import pieces
from jointdraws.worths import best_plan, table, worth
from tests.brute import best_from, random_draw, random_wish, sets_of, small_games
from tests.samples import (
    FAIR, MORE_TEXT, TURNS_TEXT, UNLIKE_TEXT, assert_raises, many_draws, more, unlike, wrong_counts, wrong_values)

STAKES = [0, Ratio(1, 7), 1]


def some_draws(seed, many, names=("a", "b", "c"), kinds=("open", "sealed", "held", "last")):
    source = random.Random(seed)
    draws = many_draws()[:6] if kinds == ("open", "sealed", "held", "last") else []
    return draws + [random_draw(source, source.choice([1, 2, 3]), list(names), kinds=list(kinds)) for _ in range(many)]


def made(draw, end=None, turn=None):
    """The draw with other ends and rounds, gone through from the first round on."""
    if isinstance(draw, End):
        return end(draw) if end else draw
    draws = [made(further, end, turn) for further in draw.draws]
    return turn(draw, draws) if turn else Round(draw.kind, draw.givers, draws)


class ReplacedTest(unittest.TestCase):
    def test_all_names(self):
        draws = some_draws(91, 25)
        for draw, other in zip(draws, draws[1:] + draws[:1]):
            text = draw.text()
            for name in draw.ends():
                got = replaced(draw=draw, name=name, other=other)
                self.assertEqual(got, made(draw, lambda end: other if end.name == name else end))
                self.assertEqual(len(got), sum(len(other) if draw.at(path).name == name else 1 for path in draw.paths()))
                self.assertEqual(replaced(draw, name, End(name)), draw)
            self.assertEqual(draw.text(), text)

    def test_ends_and_names_that_come_again(self):
        self.assertEqual(replaced(End("no"), "no", more()), more())
        # The ends of the other draw stay, also those with the name.
        self.assertEqual(replaced(unlike(), "no", unlike()).text(), UNLIKE_TEXT.replace("no", UNLIKE_TEXT))
        self.assertEqual(replaced(more(), "no", End("yes")).ends(), ["yes"])

    def test_results_may_be_passed_again(self):
        draw = unlike()
        for _ in range(5):
            draw = replaced(draw, "no", unlike())
        self.assertEqual([draw.depth(), len(draw), draw.ends()], [6, 2 ** 6 + sum(2 ** step for step in range(1, 7)), ["no", "yes"]])
        self.assertEqual(honest_shares(draw), {"no": Ratio(1, 64), "yes": Ratio(63, 64)})
        self.assertEqual(worth(draw, ["ann"], {"no": 0, "yes": 1}, stake=2), Ratio(63, 64))
        self.assertEqual(read_draw(draw.text()), draw)
        names = replaced(read_draw("open(ann 1/4 1/4 1/4 1/4 *0; a, b, c, d)"), "a", read_draw("sealed(bob 1/4 1/4 1/4 1/4 *0; e, f, g, h)"))
        self.assertEqual(len(names.ends()), 7)

    def test_no_end(self):
        for value in ["maybe", "ann", "NO", ["no"], ("no",), End("no"), {"no": 1}] + wrong_values():
            if value != "no":
                assert_raises(self, NoEnd, "given", value, lambda: replaced(unlike(), value, unlike()))

    def test_deep(self):
        draw = End("yes")
        for step in range(250):
            draw = Round("open", [("abc"[step % 3], FAIR, 0)], [End("no"), draw])
        got = replaced(draw, "yes", draw)
        self.assertEqual([got.depth(), len(got), got.at(((1,),) * 250) == draw], [500, 501, True])
        self.assertEqual(worth(got, ["a", "b", "c"], {"no": 0, "yes": 1}), 1)
        self.assertEqual([lean(got) == got, of_kind(got, "open") == got, repeated(got, 1) == got], [True, True, True])

    def test_worths(self):
        source = random.Random(92)
        for _ in range(40):
            draw = random_draw(source, 2, ["a", "b", "c"], kinds=["open", "sealed", "held"])
            other = random_draw(source, 2, ["a", "b", "d"])
            for name in draw.ends():
                got = replaced(draw, name, other)
                wish = random_wish(source, got)
                stake = source.choice(STAKES)
                everybody = sorted(set(draw.people()) | set(other.people()))
                liars = [person for person in source.sample(everybody, source.randrange(len(everybody) + 1)) if person in got.people()]
                there = [person for person in liars if person in other.people()]
                here = [person for person in liars if person in draw.people()]
                inner = worth(other, there, {end: wish[end] for end in other.ends()}, stake=stake)
                outer = {end: inner if end == name else wish[end] for end in draw.ends()}
                self.assertEqual(worth(got, liars, wish, stake=stake), worth(draw, here, outer, stake=stake))


class RenamedTest(unittest.TestCase):
    def test_ends(self):
        source = random.Random(93)
        for draw in some_draws(93, 25):
            for _ in range(3):
                names = {name: source.choice(["a", "b", "x", "zoe"]) for name in draw.ends()}
                got = with_ends(draw=draw, names=names)
                self.assertEqual(got, made(draw, lambda end: End(names[end.name])))
                self.assertEqual(got.ends(), sorted(set(names.values())))
            self.assertEqual(with_ends(draw, {name: name for name in draw.ends()}), draw)

    def test_all_at_once(self):
        self.assertEqual(with_ends(unlike(), {"no": "yes", "yes": "no"}).text(), "held(ann 1/2 1/2 *0, bob 1/2 1/2 *0; yes, no, no, yes)")
        got = with_people(unlike(), {"ann": "bob", "bob": "ann"})
        self.assertEqual(got.text(), "held(bob 1/2 1/2 *0, ann 1/2 1/2 *0; no, yes, yes, no)")
        self.assertEqual(with_people(more(), {"ann": "cid", "cid": "ann"}).text(), MORE_TEXT.replace("ann", "x").replace("cid", "ann").replace("x", "cid"))
        self.assertEqual([with_people(End("no"), {}), with_ends(End("no"), {"no": "ann"})], [End("no"), End("ann")])

    def test_people(self):
        source = random.Random(94)
        for draw in some_draws(94, 40):
            names = {person: source.choice(["ann", "bob", "x", "zoe", "yes", "open", "q", "r"]) for person in draw.people()}
            twice = [names[person] for turn in rounds_of(draw) for at, (person, _, _) in enumerate(turn.givers)
                     if names[person] in [names[other] for other, _, _ in turn.givers[:at]]]
            if twice:
                with self.assertRaises(Twice) as caught:
                    with_people(draw, names)
                self.assertEqual(caught.exception.person, twice[0])
            else:
                got = with_people(draw=draw, names=names)
                due = made(draw, None, lambda old, draws: Round(
                    old.kind, [(names[person], shares, stand_in) for person, shares, stand_in in old.givers], draws))
                self.assertEqual(got, due)
                self.assertEqual(got.people(), sorted(set(names.values())))

    def test_one_name_for_several_in_different_rounds(self):
        got = with_people(more(), {"ann": "eve", "cid": "eve"})
        self.assertEqual([got.people(), got.text()], [["eve"], MORE_TEXT.replace("ann", "eve").replace("cid", "eve")])

    def test_first_of_those_who_come_twice(self):
        draw = read_draw("open(ann 1/2 1/2 *0; sealed(bob 1/2 1/2 *0, cid 1/2 1/2 *0; a, a, a, a), "
                         "sealed(ann 1/2 1/2 *0, dan 1/2 1/2 *0; a, a, a, a))")
        new = "eve"
        # In the text the round of ann and bob stands ahead of that of cid and dan.
        outer = read_draw("open(ann 1/2 1/2 *0, bob 1/2 1/2 *0; a, b, sealed(cid 1/2 1/2 *0, dan 1/2 1/2 *0; a, a, a, b), a)")
        for near, far in (("x", "y"), ("y", "x")):
            with self.assertRaises(Twice) as caught:
                with_people(outer, {"ann": near, "bob": near, "cid": far, "dan": far})
            self.assertEqual(caught.exception.person, near)
        names = {"ann": "x", "bob": "y", "cid": "y", "dan": "x"}
        assert_raises(self, Twice, "person", names["cid"], lambda: with_people(draw, names))
        assert_raises(self, Twice, "person", new, lambda: with_people(unlike(), {"ann": new, "bob": new}))
        four = read_draw("open(ann 1/2 1/2 *0, bob 1/2 1/2 *0, cid 1/2 1/2 *0, dan 1/2 1/2 *0; %s)" % ", ".join(["a"] * 16))
        with self.assertRaises(Twice) as caught:
            with_people(four, {"ann": "x", "bob": "y", "cid": "y", "dan": "x"})
        self.assertEqual(caught.exception.person, "y")

    def test_bad_names(self):
        def wrong(keys):
            good = {key: "x" for key in keys}
            short = {key: "x" for key in keys[1:]}
            first = keys[0]
            return [short, {**good, "other": "y"}, {**short, "other": "y"}, {**good, first: "X"}, {**good, first: ""}, {**good, first: None},
                    {**good, first: True}, {**good, first: 1}, {**good, first: ["x"]}, {**good, first: "toolongname"}, {**good, first: End("x")},
                    {**good, 0: "x"}, list(good), list(good.items()), tuple(good), {**good, first: "a b"}, {**short, (first,): "x"}] + wrong_values()

        for value in wrong(["ann", "bob"]):
            assert_raises(self, BadNames, "given", value, lambda: with_people(unlike(), value))
        for value in wrong(["no", "yes"]):
            assert_raises(self, BadNames, "given", value, lambda: with_ends(unlike(), value))
        for value in [{"ann": "x"}, {"no": "x"}] + [value for value in wrong_values() if value != {}]:
            assert_raises(self, BadNames, "given", value, lambda: with_people(End("no"), value))
        assert_raises(self, BadNames, "given", value, lambda: with_ends(End("no"), value))


class RepeatedTest(unittest.TestCase):
    def check(self, draw, times):
        got = repeated(draw=draw, times=times)
        whole = [(path, draw.at(path).name) for path in draw.paths()]
        self.assertEqual(len(got), len(whole) ** times)
        told = {}
        for ways in product(whole, repeat=times):
            names = [name for _, name in ways]
            best = max(names.count(name) for name in names)
            told[sum((path for path, _ in ways), ())] = min(name for name in names if names.count(name) == best)
        for path in got.paths():
            self.assertEqual(got.at(path).name, told[path])
            step = 0
            # Each time the rounds are those of the draw.
            for here in range(len(path)):
                if isinstance(draw.at(path[step:here]), End):
                    step = here
                self.assertEqual(got.at(path[:here]).givers, draw.at(path[step:here]).givers)
                self.assertEqual(got.at(path[:here]).kind, draw.at(path[step:here]).kind)
        return got

    def test_small_draws(self):
        for draw in some_draws(95, 40):
            for times, most in ((1, 300), (2, 16), (3, 6)):
                if len(draw) <= most:
                    got = self.check(draw, times)
                    if times == 1:
                        self.assertEqual(got, draw)

    def test_first_of_several(self):
        draw = read_draw("open(ann 1/3 1/3 1/3 *0; c, a, b)")
        got = repeated(draw, 2)
        self.assertEqual([got.at(((0,), (1,))).name, got.at(((0,), (2,))).name, got.at(((2,), (2,))).name], ["a", "b", "b"])
        got = repeated(draw, 3)
        self.assertEqual([got.at(((0,), (2,), (1,))).name, got.at(((0,), (2,), (0,))).name, got.at(((2,), (0,), (2,))).name], ["a", "c", "b"])

    def test_ends(self):
        self.assertEqual([repeated(End("no"), times) for times in (1, 2, 3)], [End("no")] * 3)

    def test_out_stays_out(self):
        draw = read_draw("last(ann 1/2 1/2 *0, bob 1/2 1/2 *0; no, yes, yes, no)")
        twice = repeated(draw, 2)
        self.assertGreater(count_plans(of_kind(twice, "held"), ["ann", "bob"]), count_plans(twice, ["ann", "bob"]))
        # No comes if it comes once: whoever holds back in the first time can do nothing in the second one.
        self.assertEqual(worth(twice, ["bob"], {"no": 0, "yes": 1}), fraction_as_ratio(best_from(twice, ["bob"], (), {"no": 0, "yes": 1}, 0)))
        self.assertEqual([worth(twice, ["bob"], {"no": 0, "yes": 1}), worth(of_kind(twice, "held"), ["bob"], {"no": 0, "yes": 1})], [Ratio(3, 4), 1])

    def test_limit(self):
        sixteen = read_draw("sealed(ann 1/4 1/4 1/4 1/4 *0, bob 1/4 1/4 1/4 1/4 *0; %s)" % ", ".join(["a", "b"] * 8))
        self.assertEqual([len(repeated(sixteen, 3)), len(repeated(sixteen, 2))], [4096, 256])
        seventeen = Round("open", [("ann", [Ratio(1, 2), Ratio(1, 2)], 0)], [sixteen, End("c")])
        self.assertEqual(len(repeated(seventeen, 2)), 289)
        with self.assertRaises(TooMany) as caught:
            repeated(seventeen, 3)
        self.assertEqual([caught.exception.count, type(caught.exception.count)], [17 ** 3, int])
        large = repeated(sixteen, 3)
        self.assertEqual(repeated(large, 1), large)
        with self.assertRaises(TooMany) as caught:
            repeated(large, 2)
        self.assertEqual(caught.exception.count, 4096 ** 2)
        larger = Round("open", [("ann", [Ratio(1, 2), Ratio(1, 2)], 0)], [large, End("c")])
        with self.assertRaises(TooMany) as caught:
            repeated(larger, 1)
        self.assertEqual(caught.exception.count, 4097)

    def test_large_results_may_be_passed_again(self):
        sixteen = read_draw("last(ann 1/2 1/2 *0, bob 1/2 1/2 *1, cid 1/2 1/2 *0, dan 1/3 2/3 *1; %s)" % ", ".join(["a", "b", "b", "c"] * 4))
        got = repeated(sixteen, 3)
        wish = {"a": 1, "b": 0, "c": Ratio(1, 2)}
        told = table(got, ["ann", "dan"], wish, stake=Ratio(1, 20))
        self.assertEqual(told[((), ())], worth(got, ["dan", "ann"], wish, stake=Ratio(1, 20)))
        self.assertEqual(pieces(got, ["ann", "dan"], wish)[0][1], worth(got, ["ann", "dan"], wish))
        self.assertEqual(len(best_plan(got, ["ann", "dan"], wish)), 4)
        self.assertEqual([read_draw(got.text()) == got, len(lean(got)) < 4096], [True, True])

    def test_bad_counts(self):
        for value in [0, 4, -1, Ratio(2), True, "2", [2], None, 10 ** 50] + wrong_values():
            if type(value) is not int or not 1 <= value <= 3:
                assert_raises(self, BadCount, "given", value, lambda: repeated(unlike(), value))
        for value in wrong_counts(3):
            assert_raises(self, BadCount, "given", value, lambda: repeated(End("no"), value))


def fraction_as_ratio(number):
    return Ratio(number.numerator, number.denominator)


class KindsTest(unittest.TestCase):
    def test_of_kind(self):
        for draw in some_draws(96, 25):
            for kind in ("open", "sealed", "held", "last"):
                got = of_kind(draw=draw, kind=kind)
                self.assertEqual(got, made(draw, None, lambda old, draws: Round(kind, old.givers, draws)))
                self.assertEqual([of_kind(got, "open") == of_kind(draw, "open"), got.paths()], [True, draw.paths()])

    def test_bad_kinds(self):
        for value in ["Open", "", "close", "turn"] + wrong_values():
            if value != "open":
                assert_raises(self, BadKind, "given", value, lambda: of_kind(unlike(), value))
                assert_raises(self, BadKind, "given", value, lambda: of_kind(End("no"), value))

    def test_lean(self):
        source = random.Random(97)
        shorter = 0
        for draw in some_draws(97, 80, names=("a", "a", "a", "b")):
            got = lean(draw=draw)
            due = made(draw, None, lambda old, draws: draws[0] if all(further == draws[0] for further in draws)
                       else Round(old.kind, old.givers, draws))
            self.assertEqual(got, due)
            self.assertEqual([lean(got) == got, got.ends()], [True, draw.ends()])
            shorter += len(got) < len(draw)
            for liars in sets_of(got.people()):
                wish = random_wish(source, draw)
                self.assertEqual(pieces(got, liars, wish), pieces(draw, liars, wish))
        self.assertGreater(shorter, 10)

    def test_lean_by_hand(self):
        for kind in ("open", "sealed", "held", "last"):
            draw = read_draw("%s(ann 1/2 1/2 *0; %s(bob 1/2 1/2 *0; a, a), %s(bob 1/3 2/3 *0; a, open(cid 1/2 1/2 *1; a, a)))" % ((kind,) * 3))
            self.assertEqual(lean(draw), End("a"))
        inner = "open(bob 1/2 1/2 *0; a, b)"
        self.assertEqual(lean(read_draw("last(ann 1/2 1/2 *0; %s, %s)" % (inner, inner))).text(), inner)
        for other in ("open(bob 1/2 1/2 *1; a, b)", "sealed(bob 1/2 1/2 *0; a, b)", "open(bob 1/3 2/3 *0; a, b)", "open(bob 1/2 1/2 *0; b, a)"):
            draw = read_draw("last(ann 1/2 1/2 *0; %s, %s)" % (inner, other))
            self.assertEqual(lean(draw), draw)
        self.assertEqual([lean(End("no")), lean(unlike()), lean(read_draw(TURNS_TEXT))], [End("no"), unlike(), read_draw(TURNS_TEXT)])


class StayTest(unittest.TestCase):
    def test_arguments_stay(self):
        for draw, _ in small_games(98, 15):
            text = draw.text()
            people = {person: "x" * (at + 1) for at, person in enumerate(draw.people())}
            ends = {name: "same" for name in draw.ends()}
            kept = [dict(people), dict(ends)]
            made_of_it = [with_people(draw, people), with_ends(draw, ends), of_kind(draw, "last"), lean(draw), replaced(draw, draw.ends()[0], more())]
            again = [with_people(draw, people), with_ends(draw, ends), of_kind(draw, "last"), lean(draw), replaced(draw, draw.ends()[0], more())]
            self.assertEqual([draw.text(), people, ends], [text] + kept)
            texts = [other.text() for other in made_of_it]
            people.clear()
            ends.clear()
            self.assertEqual([other.text() for other in made_of_it], texts)
            self.assertEqual(made_of_it, again)


if __name__ == "__main__":
    unittest.main()
