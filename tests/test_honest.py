import random
import unittest
from fractions import Fraction
from itertools import product

from jointdraws.draws import End, Round, read_draw
from jointdraws.errors import BadPath, BadWish, NoEnd, NoPerson
from jointdraws.honest import (
    chance, honest_mean, honest_shares, is_even, is_turns, numbers_back, numbers_given, told_back)
from jointdraws.ratios import Ratio
from tests.samples import (
    FAIR, MIXED_TEXT, TURNS_TEXT, assert_raises, fraction, many_draws, more, one_giver, unlike, wrong_values)
from tests.test_texts import random_draw


def gone(draw):
    """All paths with where they lead and their chances, by another way than the program's."""
    yield (), draw, Fraction(1)
    if isinstance(draw, Round):
        for row, further in zip(product(*[range(len(shares)) for _, shares, _ in draw.givers]), draw.draws):
            part = Fraction(1)
            for (_, shares, _), number in zip(draw.givers, row):
                part = part * Fraction(shares[number].top, shares[number].bottom)
            for path, here, rest in gone(further):
                yield (row,) + path, here, part * rest


def all_draws():
    source = random.Random(9)
    return many_draws() + [random_draw(source, 3) for _ in range(25)]


class ChanceTest(unittest.TestCase):
    def test_all_paths(self):
        for draw in all_draws():
            for path, _, part in gone(draw):
                got = chance(draw, path)
                self.assertIs(type(got), Ratio)
                self.assertEqual(fraction(got), part)

    def test_empty_path(self):
        for draw in all_draws():
            self.assertEqual(chance(draw=draw, path=()), Ratio(1))
            self.assertIs(type(chance(draw, ())), Ratio)

    def test_whole_paths_sum_up(self):
        for draw in all_draws():
            self.assertEqual(sum(fraction(chance(draw, path)) for path in draw.paths()), 1)

    def test_bad_paths(self):
        wrong = [[], [(0,)], ((0,), (0,)), ((2,),), ((True,),), ((Ratio(1),),), ((1,), (False,)), ((1,), (0,), ()), ([1],), ((),)]
        for value in wrong + wrong_values():
            if repr(value) not in ("()", "((0,),)"):
                assert_raises(self, BadPath, "given", value, lambda: chance(more(), value))
            if repr(value) != "()":
                assert_raises(self, BadPath, "given", value, lambda: chance(End("no"), value))


class MeansTest(unittest.TestCase):
    def test_shares(self):
        for draw in all_draws():
            told = honest_shares(draw)
            self.assertEqual(list(told), draw.ends())
            self.assertEqual({type(part) for part in told.values()}, {Ratio})
            for name in draw.ends():
                self.assertEqual(fraction(told[name]), sum(part for _, here, part in gone(draw) if here == End(name)))

    def test_end_alone(self):
        self.assertEqual(honest_shares(draw=End("yes")), {"yes": 1})
        self.assertEqual(honest_mean(End("yes"), {"yes": -3}), -3)
        self.assertIs(type(honest_mean(End("yes"), {"yes": -3})), Ratio)

    def test_mean(self):
        source = random.Random(2)
        for draw in all_draws():
            wish = {name: source.choice([0, 1, -4, Ratio(1, 3), Ratio(-7, 2), 10 ** 99]) for name in reversed(draw.ends())}
            got = honest_mean(draw=draw, wish=wish)
            self.assertIs(type(got), Ratio)
            told = sum(part * fraction(wish[here.name]) for _, here, part in gone(draw) if isinstance(here, End))
            self.assertEqual(fraction(got), told)

    def test_bad_wishes(self):
        wrong = [{}, {"no": 0}, {"yes": 1}, {"no": 0, "yes": 1, "x": 1}, {"no": 0, "x": 1}, {"no": 0, "yes": True},
                 {"no": None, "yes": 1}, {"no": "0", "yes": 1}, {"no": [0], "yes": 1}, {0: 0, 1: 1}, [0, 1], [("no", 0), ("yes", 1)],
                 (("no", 0), ("yes", 1)), {"no": 0, ("yes",): 1}, {"No": 0, "yes": 1}, {"no": 0, "yes": End("yes")}, ["no", "yes"],
                 {"no": False, "yes": 1}, {"no": 0, "yes": {}}, {"no": {"no": 0}, "yes": 1}]
        for value in wrong + wrong_values():
            assert_raises(self, BadWish, "given", value, lambda: honest_mean(unlike(), value))
        for value in wrong_values():
            if value != {"no": 0}:
                assert_raises(self, BadWish, "given", value, lambda: honest_mean(End("no"), value))

    def test_arguments_stay_and_results_are_new(self):
        draw, wish = more(), {"yes": 3, "no": Ratio(1, 2)}
        text, told = draw.text(), honest_shares(draw)
        mean = honest_mean(draw, wish)
        told["yes"] = 7
        told["x"] = 1
        self.assertEqual(list(honest_shares(draw)), ["no", "yes"])
        self.assertEqual(honest_shares(draw), {"no": Ratio(1, 3), "yes": Ratio(2, 3)})
        self.assertEqual([list(wish.items()), draw.text()], [[("yes", 3), ("no", Ratio(1, 2))], text])
        self.assertEqual([mean, type(wish["yes"])], [honest_mean(draw, wish), int])


    def test_results_beyond_the_limits_may_be_passed_again(self):
        draw = read_draw(MIXED_TEXT)
        number = Ratio(10 ** 99 + 1, 10 ** 99 + 7)
        for _ in range(5):
            number = honest_mean(draw, {"no": number * number, "yes": -number})
        self.assertGreater(len(str(number.bottom)), 1000)
        self.assertEqual(honest_mean(draw, {"no": number, "yes": number}), number)

    def test_errors_change_nothing(self):
        draw, wish = more(), {"no": 0, "yes": [1]}
        text = draw.text()
        for call in (lambda: honest_mean(draw, wish), lambda: chance(draw, ((7,),)), lambda: told_back(draw, "x"),
                     lambda: numbers_back(draw, "x", "x"), lambda: draw.at([0])):
            self.assertRaises(ValueError, call)
        self.assertEqual([draw.text(), wish], [text, {"no": 0, "yes": [1]}])


class ToldBackTest(unittest.TestCase):
    def test_all_names(self):
        for draw in all_draws():
            for name in draw.ends():
                met = [(path, part) for path, here, part in gone(draw) if here == End(name)]
                whole = sum(part for _, part in met)
                got = told_back(draw, name)
                self.assertEqual([(path, fraction(part)) for path, part in got], [(path, part / whole) for path, part in met])
                self.assertEqual([path for path, _ in got], sorted(path for path, _ in got))
                self.assertEqual({(type(row), type(row[1])) for row in got}, {(tuple, Ratio)})
                self.assertEqual(told_back(draw=draw, name=name), got)

    def test_end_alone(self):
        self.assertEqual(told_back(End("no"), "no"), [((), 1)])

    def test_no_end(self):
        for draw in (unlike(), more(), End("yes"), read_draw(MIXED_TEXT)):
            for value in ["maybe", "ann", "NO", "no ", ["no"], ("no",), {"no": 1}, End("yes")] + wrong_values():
                if not isinstance(value, str) or value not in draw.ends():
                    assert_raises(self, NoEnd, "given", value, lambda: told_back(draw, value))

    def test_results_are_new(self):
        draw = more()
        told = told_back(draw, "yes")
        told.pop()
        self.assertEqual(len(told_back(draw, "yes")), 2)


class NumbersBackTest(unittest.TestCase):
    def test_all_people_and_names(self):
        for draw in all_draws():
            givers = draw.givers if isinstance(draw, Round) else ()
            for place, (person, shares, _) in enumerate(givers):
                for name in draw.ends():
                    parts = [Fraction(0) for _ in shares]
                    for path, here, part in gone(draw):
                        if here == End(name):
                            parts[path[0][place]] += part
                    got = numbers_back(draw, person, name)
                    self.assertEqual([fraction(part) for part in got], [part / sum(parts) for part in parts])
                    self.assertEqual({type(part) for part in got}, {Ratio})
                    self.assertEqual(numbers_back(draw=draw, person=person, name=name), got)

    def test_numbers_that_cannot_have_been_given(self):
        draw = one_giver([Ratio(1, 2), Ratio(1, 3), Ratio(1, 6)], "no", "yes", "no")
        self.assertEqual(numbers_back(draw, "ann", "yes"), [0, 1, 0])
        self.assertEqual(numbers_back(draw, "ann", "no"), [Ratio(3, 4), 0, Ratio(1, 4)])

    def test_no_person(self):
        for value in ["eve", "ann", "Cid", ["cid"], ("cid",), {"cid": 1}] + wrong_values():
            assert_raises(self, NoPerson, "given", value, lambda: numbers_back(more(), value, "yes"))
            assert_raises(self, NoPerson, "given", value, lambda: numbers_back(more(), value, "maybe"))
            assert_raises(self, NoPerson, "given", value, lambda: numbers_back(End("yes"), value, "yes"))
            assert_raises(self, NoPerson, "given", value, lambda: numbers_back(End("yes"), value, [None]))

    def test_no_end(self):
        for value in ["maybe", "cid", ["no"]] + wrong_values():
            if value != "no":
                assert_raises(self, NoEnd, "given", value, lambda: numbers_back(more(), "cid", value))

    def test_results_are_new(self):
        told = numbers_back(more(), "cid", "yes")
        told[0] = 5
        self.assertEqual(numbers_back(more(), "cid", "yes"), [Ratio(1, 2), Ratio(1, 2)])


class KindsTest(unittest.TestCase):
    def test_turns(self):
        self.assertIs(is_turns(End("no")), True)
        self.assertIs(is_turns(draw=read_draw(TURNS_TEXT)), True)
        self.assertIs(is_turns(one_giver([Ratio(1, 4)] * 4, "a", "b", "c", "d")), True)
        for kind in ("sealed", "held", "last"):
            self.assertIs(is_turns(Round(kind, [("ann", FAIR, 0)], [End("a"), End("b")])), False)
        self.assertIs(is_turns(read_draw("open(ann 1/2 1/2 *0, bob 1/2 1/2 *0; a, b, c, d)")), False)
        self.assertIs(is_turns(more()), False)
        self.assertIs(is_turns(read_draw(TURNS_TEXT.replace("open(bob", "sealed(bob"))), False)
        self.assertIs(is_turns(read_draw("sealed(bob 1/2 1/2 *0; no, " + TURNS_TEXT + ")")), False)

    def test_even(self):
        self.assertIs(is_even(End("no")), True)
        self.assertIs(is_even(draw=unlike()), True)
        self.assertIs(is_even(more()), False)
        self.assertIs(is_even(one_giver([Ratio(1, 3)] * 3, "a", "b", "c")), True)
        self.assertIs(is_even(one_giver([Ratio(1, 3)] * 3, "a", "b", "a")), False)
        self.assertIs(is_even(one_giver([Ratio(1, 2), Ratio(1, 4), Ratio(1, 4)], "a", "b", "b")), True)
        self.assertIs(is_even(one_giver([Ratio(1, 3)] * 3, "a", "a", "a")), True)
        for draw in all_draws():
            self.assertIs(is_even(draw), len({fraction(part) for part in honest_shares(draw).values()}) == 1)

    def test_numbers_given(self):
        self.assertEqual(numbers_given(End("no")), {})
        self.assertEqual(numbers_given(draw=more()), {"ann": 1, "cid": 1})
        inner = "open(bob 1/2 1/2 *0; yes, open(ann 1/2 1/2 *0, bob 1/2 1/2 *0; a, b, c, d))"
        draw = read_draw("held(cid 1/2 1/2 *0; open(ann 1/2 1/2 *0; no, open(ann 1/2 1/2 *0; no, yes)), " + inner + ")")
        self.assertEqual(list(numbers_given(draw).items()), [("ann", 2), ("bob", 2), ("cid", 1)])

    def test_numbers_given_against_all_paths(self):
        for draw in all_draws():
            told = {person: 0 for person in draw.people()}
            for path in draw.paths():
                counts = {person: 0 for person in told}
                for step in range(len(path)):
                    for person, _, _ in draw.at(path[:step]).givers:
                        counts[person] += 1
                told = {person: max(told[person], counts[person]) for person in told}
            got = numbers_given(draw)
            self.assertEqual(list(got.items()), list(told.items()))
            self.assertTrue(all(type(count) is int for count in got.values()))
            got.clear()
            self.assertEqual(numbers_given(draw), told)

    def test_draws_stay(self):
        for draw in all_draws():
            text = draw.text()
            for ask in (honest_shares, is_turns, is_even, numbers_given):
                self.assertEqual(ask(draw), ask(draw))
            self.assertEqual(draw.text(), text)

    def test_deep_draws(self):
        draw = End("no")
        for step in range(250):
            draw = Round("open", [("abc"[step % 3], FAIR, 0)], [draw, End("yes")])
        self.assertEqual(honest_shares(draw)["no"], Ratio(1, 2 ** 250))
        self.assertEqual([is_turns(draw), numbers_given(draw)], [True, {"a": 84, "b": 83, "c": 83}])
        self.assertEqual(chance(draw, ((0,),) * 250), Ratio(1, 2 ** 250))


if __name__ == "__main__":
    unittest.main()
