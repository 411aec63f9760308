import random
import unittest

from jointdraws.built import lean, replaced
from jointdraws.draws import End, read_draw
from jointdraws.duels import duel, duel_table, guards, is_duel_table
from jointdraws.errors import BadLiars, BadStake, BadWish
from jointdraws.force import forces
from jointdraws.guards import is_guard, kept_to, made_sure
from jointdraws.matrices import solved
from jointdraws.ratios import Ratio
from jointdraws.worths import table, worth
from tests.brute import SMALL_TEXTS, all_spots, random_draw, random_wish, sets_of
from tests.leagues import all_moments, least_by_guard
from tests.samples import (
    MIXED_TEXT, TURNS_TEXT, assert_raises, fraction, unlike, wrong_amounts, wrong_lists, wrong_values, wrong_wishes)

WIN = {"no": 0, "yes": 1}


def some_duels(seed, many, depth=2, **more):
    """Draws of all kinds with two leagues, and with honest people."""
    source = random.Random(seed)
    draws = [read_draw(text) for text in SMALL_TEXTS + ["last(ann 1/2 1/2 *0, bob 1/2 1/2 *0; no, yes, yes, no)"]]
    draws += [random_draw(source, source.choice([1, depth]), ["no", "yes", "maybe"], **more) for _ in range(many)]
    for draw in draws:
        people = draw.people()
        source.shuffle(people)
        first, second = source.randrange(len(people) + 1), source.randrange(len(people) + 1)
        yield draw, people[:first], people[first:first + second], random_wish(source, draw), source.choice([0, 0, 1, Ratio(1, 5)])


class MatricesTest(unittest.TestCase):
    def test_both_come_to_the_value(self):
        source = random.Random(140)
        for _ in range(2000):
            many, across = source.choice([(1, 1), (1, 4), (4, 1), (2, 2), (2, 3), (3, 2), (3, 3), (4, 4), (2, 8), (8, 2)])
            most = source.choice([1, 2, 3, 100])
            matrix = [[Ratio(source.randrange(-most, most + 1), source.choice([1, 1, 2, 3])) for _ in range(across)] for _ in range(many)]
            value, rows, columns = solved(matrix)
            rows, columns = [fraction(part) for part in rows], [fraction(part) for part in columns]
            self.assertEqual((sum(rows), sum(columns), min(rows + columns) >= 0), (1, 1, True))
            for at in range(across):
                self.assertGreaterEqual(sum(part * fraction(row[at]) for part, row in zip(rows, matrix)), fraction(value))
            for row in matrix:
                self.assertLessEqual(sum(part * fraction(number) for part, number in zip(columns, row)), fraction(value))


class DuelsTest(unittest.TestCase):
    def test_guards_come_to_the_duel(self):
        mixed = 0
        for draw, first, second, wish, stake in some_duels(143, 50):
            told = duel(draw=draw, first=first, second=second, wish=wish, stake=stake)
            mine, yours = guards(draw=draw, first=first, second=second, wish=wish, stake=stake)
            self.assertEqual(sorted(mine), sorted(all_moments(draw, first, second)))
            self.assertEqual(sorted(yours), sorted(all_moments(draw, second, first)))
            self.assertIs(is_guard(draw, first, second, mine), True)
            self.assertIs(is_guard(draw, second, first, yours), True)
            # What the one makes sure of is what the other one keeps it to, so neither can do better.
            opposite = {name: -wish[name] for name in wish}
            self.assertEqual(least_by_guard(draw, first, second, wish, stake, mine), fraction(told))
            self.assertEqual(-least_by_guard(draw, second, first, opposite, stake, yours), fraction(told))
            self.assertEqual([made_sure(draw, first, second, wish, mine, stake=stake), kept_to(draw, first, second, wish, yours, stake=stake)],
                             [told, told])
            self.assertIsInstance(told, Ratio)
            self.assertEqual(duel(draw, tuple(first), tuple(second[::-1]), wish, stake=stake), told)
            mixed += any(len(mix) > 1 for mix in list(mine.values()) + list(yours.values()))
        self.assertGreater(mixed, 2)

    def test_chosen_at_the_same_time(self):
        # Who sees the number of the other one, or the hold, would always win here.
        for kind, due in (("open", "1/2"), ("sealed", "1/2"), ("held", "1/2"), ("last", "1/2")):
            draw = read_draw(f"{kind}(ann 1/2 1/2 *0, bob 1/2 1/2 *0; no, yes, yes, no)")
            self.assertEqual(duel(draw, ["ann"], ["bob"], WIN).text(), due)
        three = read_draw("sealed(ann 1/3 1/3 1/3 *0, bob 1/3 1/3 1/3 *0; no, yes, maybe, maybe, no, yes, yes, maybe, no)")
        wish = {"no": 0, "yes": 1, "maybe": -1}
        self.assertEqual(duel(three, ["ann"], ["bob"], wish), 0)
        mine, yours = guards(three, ["ann"], ["bob"], wish)
        third = Ratio(1, 3)
        self.assertEqual(mine, {("give", (), (), ()): [((0,), third), ((1,), third), ((2,), third)]})
        self.assertEqual(yours, mine)
        # Values that are no halves: 1 against 2.
        odd = read_draw("sealed(ann 1/2 1/2 *0, bob 1/2 1/2 *0; a, b, b, c)")
        self.assertEqual(duel(odd, ["ann"], ["bob"], {"a": 1, "b": 0, "c": 2}).text(), "2/3")

    def test_honest_numbers_are_seen_in_open_rounds_only(self):
        text = "%s(cid 1/2 1/2 *0, ann 1/2 1/2 *0; no, yes, yes, no)"
        self.assertEqual(duel(read_draw(text % "open"), ["ann"], [], WIN), 1)
        self.assertEqual(duel(read_draw(text % "sealed"), ["ann"], [], WIN), Ratio(1, 2))
        mine, yours = guards(read_draw(text % "open"), ["ann"], [], WIN)
        self.assertEqual((mine, yours), ({("give", (), (), (0,)): [((1,), 1)], ("give", (), (), (1,)): [((0,), 1)]}, {}))

    def test_stakes(self):
        draw = unlike()
        # Holding back costs the one, and gives to it if the other one does.
        self.assertEqual(duel(draw, ["ann"], [], WIN, stake=Ratio(1, 3)), worth(draw, ["ann"], WIN, stake=Ratio(1, 3)))
        self.assertEqual(duel(draw, [], ["ann"], WIN, stake=Ratio(1, 3)), 1 - worth(draw, ["ann"], {"no": 1, "yes": 0}, stake=Ratio(1, 3)))
        self.assertEqual(duel(draw, [], ["ann"], WIN, stake=Ratio(1, 3)), Ratio(1, 6))
        self.assertEqual(duel(draw, ["ann"], ["bob"], WIN, stake=0), duel(draw, ["ann"], ["bob"], WIN))

    def test_end_alone(self):
        draw = End("no")
        self.assertEqual([duel(draw, [], [], {"no": 3}), guards(draw, [], [], {"no": 3})], [3, ({}, {})])
        self.assertEqual(duel_table(draw, [], [], {"no": 3}), {((), ()): 3})


class TablesTest(unittest.TestCase):
    def test_duels_from_there_on(self):
        for draw, first, second, wish, stake in some_duels(145, 25):
            told = duel_table(draw=draw, first=first, second=second, wish=wish, stake=stake)
            spots = all_spots(draw, first + second)
            self.assertEqual(sorted(told), sorted(spots))
            mine, _ = guards(draw, first, second, wish, stake=stake)
            for (path, out), here in spots.items():
                self.assertIsInstance(told[(path, out)], Ratio)
                if isinstance(here, End):
                    self.assertEqual(told[(path, out)], wish[here.name])
                else:
                    self.assertEqual(fraction(told[(path, out)]), least_by_guard(here, first, second, wish, stake, mine, path, out))
                if not out:
                    left = [[person for person in league if person in here.people()] for league in (first, second)]
                    kept = {name: wish[name] for name in here.ends()}
                    self.assertEqual(told[(path, out)], duel(here, left[0], left[1], kept, stake=stake))
            self.assertEqual(told[((), ())], duel(draw, first, second, wish, stake=stake))
            told.clear()
            self.assertEqual(len(duel_table(draw, first, second, wish, stake=stake)), len(spots))

    def test_is_duel_table(self):
        for draw, first, second, wish, stake in some_duels(146, 15):
            told = duel_table(draw, first, second, wish, stake=stake)
            ask = [draw, first, second, wish]
            self.assertIs(is_duel_table(*ask, told, stake=stake), True)
            self.assertIs(is_duel_table(draw=draw, first=first, second=second, wish=wish, value=told, stake=stake), True)
            for spot in told:
                self.assertIs(is_duel_table(*ask, {**told, spot: told[spot] + Ratio(1, 10 ** 6)}, stake=stake), False)
                self.assertIs(is_duel_table(*ask, {**told, spot: None}, stake=stake), False)
                self.assertIs(is_duel_table(*ask, {key: told[key] for key in told if key != spot}, stake=stake), False)
            self.assertIs(is_duel_table(*ask, {**told, (((9,),), ()): 0}, stake=stake), False)
            whole = {spot: told[spot].top if told[spot].bottom == 1 else told[spot] for spot in told}
            self.assertIs(is_duel_table(*ask, whole, stake=stake), True)
            for value in wrong_values():
                self.assertIs(is_duel_table(*ask, value, stake=stake), False)


class StatementsTest(unittest.TestCase):
    def test_second_league_empty(self):
        for draw, first, _, wish, stake in some_duels(147, 20):
            self.assertEqual(duel(draw, first, [], wish, stake=stake), worth(draw, first, wish, stake=stake))
            self.assertEqual(duel_table(draw, first, [], wish, stake=stake), table(draw, first, wish, stake=stake))

    def test_leagues_exchanged(self):
        for draw, first, second, wish, stake in some_duels(148, 20):
            opposite = {name: -wish[name] for name in wish}
            self.assertEqual(duel(draw, second, first, opposite, stake=stake), -duel(draw, first, second, wish, stake=stake))

    def test_more_people(self):
        for draw, first, second, wish, stake in some_duels(149, 20):
            told = duel(draw, first, second, wish, stake=stake)
            for person in draw.people():
                if person not in first + second:
                    self.assertFalse(duel(draw, first + [person], second, wish, stake=stake).below(told))
                    self.assertFalse(told.below(duel(draw, first, second + [person], wish, stake=stake)))

    def test_draws_of_turns(self):
        for draw, first, second, wish, stake in some_duels(150, 25, depth=4, kinds=["open"], most=1):
            if any(len(here.givers) > 1 or here.kind != "open" for here in all_spots(draw, []).values() if not isinstance(here, End)):
                continue
            for guard in guards(draw, first, second, wish, stake=stake):
                self.assertTrue(all(len(mix) == 1 and mix[0][1] == 1 for mix in guard.values()))
            second = [person for person in draw.people() if person not in first]
            for names in sets_of(draw.ends()):
                seek = {name: int(name in names) for name in draw.ends()}
                self.assertEqual(duel(draw, first, second, seek), int(forces(draw, first, names)))

    def test_draws_put_together(self):
        source = random.Random(151)
        for draw, first, second, wish, stake in some_duels(151, 15):
            thin = lean(draw)
            if not set(first + second) <= set(thin.people()) or thin.ends() != draw.ends():
                continue
            self.assertEqual(duel(thin, first, second, wish, stake=stake), duel(draw, first, second, wish, stake=stake))
        for _ in range(10):
            draw = random_draw(source, 2, ["no", "yes"], kinds=["open", "sealed", "held"])
            other = random_draw(source, 2, ["no", "maybe"], kinds=["open", "sealed", "held"])
            if "no" not in draw.ends():
                continue
            both = replaced(draw, "no", other)
            first, second = both.people()[:1], both.people()[1:]
            wish = {name: source.randrange(-3, 4) for name in sorted(set(draw.ends() + both.ends()))}
            further = duel(other, [person for person in first if person in other.people()],
                           [person for person in second if person in other.people()], {name: wish[name] for name in other.ends()}, stake=1)
            inner = {name: further if name == "no" else wish[name] for name in draw.ends()}
            due = duel(draw, [person for person in first if person in draw.people()],
                       [person for person in second if person in draw.people()], inner, stake=1)
            self.assertEqual(duel(both, first, second, {name: wish[name] for name in both.ends()}, stake=1), due)


class ErrorsTest(unittest.TestCase):
    def test_errors(self):
        draw = read_draw(MIXED_TEXT)
        for ask in (duel, guards, duel_table, lambda *given, **more: is_duel_table(*given, None, **more)):
            for value in wrong_lists(["ann", "bob", "cid"]):
                assert_raises(self, BadLiars, "given", value, lambda: ask(draw, value, None, None, stake=None))
                assert_raises(self, BadLiars, "given", value, lambda: ask(draw, [], value, None, stake=None))
            for value in (["ann"], ("bob", "ann"), ["cid", "ann"]):
                assert_raises(self, BadLiars, "given", value, lambda: ask(draw, ["ann"], value, None, stake=None))
            for value in wrong_wishes(["no", "yes"]):
                assert_raises(self, BadWish, "given", value, lambda: ask(draw, ["ann"], ["bob"], value, stake=None))
            for value in wrong_amounts():
                assert_raises(self, BadStake, "given", value, lambda: ask(draw, ["ann"], ["cid"], WIN, stake=value))

    def test_new_ones_on_each_call(self):
        draw, wish = read_draw(TURNS_TEXT), dict(WIN)
        mine, yours = guards(draw, ["ann"], ["bob"], wish)
        kept = ({key: list(mine[key]) for key in mine}, {key: list(yours[key]) for key in yours})
        for guard in (mine, yours):
            for mix in guard.values():
                mix.append("more")
            guard["more"] = 1
        wish["no"] = 5
        self.assertEqual(guards(draw, ["ann"], ["bob"], WIN), kept)


if __name__ == "__main__":
    unittest.main()
