import random
import unittest
from itertools import combinations, product

from jointdraws.built import of_kind, with_ends
from jointdraws.draws import End, Round, read_draw
from jointdraws.errors import BadFamily, BadLiars, BadNames, BadPrices, NotTurns, UnlikeEnds
from jointdraws.force import (
    alike_in_force, cheapest_force, family_draw, forces, forcing_sets, is_strategy, parting_force, strategy)
from jointdraws.honest import is_turns
from jointdraws.ratios import Ratio
from jointdraws.worths import worth
from tests.brute import PEOPLE, random_draw, sets_of
from tests.samples import (
    FAIR, TURNS_TEXT, assert_raises, fraction, many_draws, more, unlike, wrong_lists, wrong_prices, wrong_values)


def turns():
    return read_draw(TURNS_TEXT)


def random_turns(source, depth, names=("no", "yes", "maybe"), people=PEOPLE):
    return random_draw(source, depth, list(names), people, kinds=["open"], most=1)


def some_turns(seed, many, depth=3):
    source = random.Random(seed)
    draws = [End("no"), turns(), read_draw("open(ann 1/3 1/3 1/3 *0; no, yes, open(ann 1/2 1/2 *1; yes, maybe))")]
    return draws + [random_turns(source, source.choice([1, 2, depth])) for _ in range(many)]


def can_force(draw, people, names):
    if isinstance(draw, End):
        return draw.name in names
    ways = [can_force(further, people, names) for further in draw.draws]
    return any(ways) if draw.givers[0][0] in people else all(ways)


def all_ways(draw, people, path=()):
    """All ways of some people to give numbers in the rounds that they come to, with the names that can come then."""
    if isinstance(draw, End):
        return [({}, {draw.name})]
    mine = [all_ways(further, people, path + ((number,),)) for number, further in enumerate(draw.draws)]
    if draw.givers[0][0] in people:
        return [({path: number, **told}, names) for number, ways in enumerate(mine) for told, names in ways]
    found = []
    for chosen in product(*mine):
        told, names = {}, set()
        for part, reached in chosen:
            told.update(part)
            names |= reached
        found.append((told, names))
    return found


class ForcesTest(unittest.TestCase):
    def test_all_people_and_names(self):
        for draw in some_turns(81, 40):
            for people in sets_of(draw.people()):
                for names in sets_of(draw.ends()):
                    due = can_force(draw, people, names)
                    self.assertIs(forces(draw=draw, people=people, names=names), due)
                    self.assertIs(forces(draw, list(people[::-1]), list(names[::-1])), due)

    def test_nobody_everybody_no_names_all_names(self):
        for draw in some_turns(82, 20):
            self.assertIs(forces(draw, [], draw.ends()), True)
            self.assertIs(forces(draw, draw.people(), []), False)
            for name in draw.ends():
                self.assertIs(forces(draw, draw.people(), [name]), True)
                self.assertIs(forces(draw, [], [name]), draw.ends() == [name])

    def test_as_worths(self):
        # All shares are above 0, so what comes surely is what comes whatever the others give.
        for draw in some_turns(83, 15):
            for people in sets_of(draw.people()):
                for names in sets_of(draw.ends()):
                    seek = {name: int(name in names) for name in draw.ends()}
                    self.assertIs(forces(draw, people, names), worth(draw, people, seek) == 1)

    def test_deep_draws(self):
        draw = End("yes")
        for step in range(250):
            draw = Round("open", [("abc"[step % 3], FAIR, 0)], [End("no"), draw])
        self.assertIs(forces(draw, ["a", "b", "c"], ["yes"]), True)
        self.assertIs(forces(draw, ["a", "b"], ["yes"]), False)
        self.assertEqual(forcing_sets(draw, ["no"]), [("a",), ("b",), ("c",)])
        self.assertEqual(len(strategy(draw, ["a", "b", "c"], ["yes"])), 250)
        self.assertIs(alike_in_force(draw, read_draw("open(a 1/2 1/2 *0; no, open(b 1/2 1/2 *0; no, open(c 1/2 1/2 *0; no, yes)))")), True)


class StrategiesTest(unittest.TestCase):
    def test_all_ways(self):
        source = random.Random(84)
        for draw in some_turns(84, 40, depth=2):
            for people in sets_of(draw.people()):
                ways = all_ways(draw, people)
                if len(ways) > 200:
                    continue
                for names in sets_of(draw.ends()):
                    good = [told for told, reached in ways if reached <= set(names)]
                    got = strategy(draw=draw, people=people, names=names)
                    self.assertEqual(got is None, not good)
                    if got is not None:
                        self.assertIn(got, good)
                        self.assertTrue(all(type(number) is int for number in got.values()))
                    for told, _ in source.sample(ways, min(6, len(ways))):
                        self.assertIs(is_strategy(draw=draw, people=people, names=names, value=told), told in good)

    def test_exactly_one_of_two(self):
        for draw in some_turns(85, 40) + [family_draw(PEOPLE, [PEOPLE[:2], PEOPLE[1:3], PEOPLE[2:]])]:
            for people in sets_of(draw.people()):
                for names in sets_of(draw.ends()):
                    others = [person for person in draw.people() if person not in people]
                    rest = [name for name in draw.ends() if name not in names]
                    mine, yours = strategy(draw, people, names), strategy(draw, others, rest)
                    self.assertEqual([mine is None, yours is None].count(True), 1)
                    if mine is not None:
                        self.assertIs(is_strategy(draw, people, names, mine), True)
                    else:
                        self.assertIs(is_strategy(draw, others, rest, yours), True)

    def test_other_values(self):
        draw = read_draw("open(ann 1/2 1/2 *0; open(bob 1/2 1/2 *0; yes, open(ann 1/2 1/2 *0; no, yes)), open(ann 1/3 1/3 1/3 *0; no, yes, no))")
        good = {(): 0, ((0,), (1,)): 1}
        also = {(): 1, ((1,),): 1}
        self.assertEqual([is_strategy(draw, ["ann"], ["yes"], value) for value in (good, also)], [True, True])
        wrong = [{}, {(): 0}, {**good, ((1,),): 1}, {**good, (): 1}, {(): 0, ((0,), (1,)): 0}, {(): True, ((1,),): 1}, {(): 1, ((1,),): True},
                 {(): Ratio(1), ((1,),): 1}, {(): 1, ((1,),): 3}, {(): 1, ((1,),): -1}, {(): 2}, {(): 1, ((1,),): 2}, {(): None, ((1,),): 1},
                 {(): "1", ((1,),): 1}, {(): [1], ((1,),): 1}, {(): 1, (1,): 1}, {(): 1, ((1,),): 1, "other": 0}, {(): 1, ((1,),): 1, ((0,),): 0},
                 [((), 1), (((1,),), 1)], (good,), [good], {((1,),): 1}]
        for value in wrong + wrong_values():
            self.assertIs(is_strategy(draw, ["ann"], ["yes"], value), False, value)
        self.assertIs(is_strategy(draw, ["ann"], ["no"], {(): 1, ((1,),): 2}), True)
        self.assertIs(is_strategy(draw, ["ann"], ["no", "yes"], {(): 1, ((1,),): 2}), True)

    def test_nobody_has_a_turn(self):
        self.assertEqual([strategy(turns(), [], ["no", "yes"]), strategy(turns(), [], ["no"])], [{}, None])
        self.assertEqual([strategy(End("no"), [], ["no"]), strategy(End("no"), [], [])], [{}, None])
        self.assertEqual([is_strategy(End("no"), [], ["no"], {}), is_strategy(End("no"), [], [], {})], [True, False])
        for value in wrong_values():
            self.assertIs(is_strategy(turns(), [], ["no", "yes"], value), value == {} and isinstance(value, dict))


class SetsTest(unittest.TestCase):
    def test_against_all_sets(self):
        for draw in some_turns(86, 40):
            for names in sets_of(draw.ends()):
                told = [people for people in sets_of(draw.people()) if can_force(draw, people, names)]
                due = [people for people in told if not any(set(other) < set(people) for other in told)]
                got = forcing_sets(draw=draw, names=names)
                self.assertEqual(got, due)
                self.assertEqual([type(got), {type(people) for people in got} <= {tuple}], [list, True])
                for people in sets_of(draw.people()):
                    self.assertIs(forces(draw, people, names), any(set(least) <= set(people) for least in got))

    def test_edges(self):
        self.assertEqual([forcing_sets(End("no"), ["no"]), forcing_sets(End("no"), [])], [[()], []])
        self.assertEqual([forcing_sets(turns(), []), forcing_sets(turns(), ("yes", "no"))], [[], [()]])
        draw = family_draw(PEOPLE, [["dan"], ["bob", "cid"], ["ann", "cid"]])
        self.assertEqual(forcing_sets(draw, ["yes"]), [("dan",), ("ann", "cid"), ("bob", "cid")])

    def test_cheapest(self):
        source = random.Random(87)
        for draw in some_turns(87, 40):
            for names in sets_of(draw.ends()):
                prices = {person: source.choice([0, 0, 1, 2, 2, Ratio(1, 2), Ratio(5, 2)]) for person in draw.people()}
                told = [(sum(fraction(prices[person]) for person in people), people)
                        for people in sets_of(draw.people()) if can_force(draw, people, names)]
                got = cheapest_force(draw=draw, names=names, prices=prices)
                if not told:
                    self.assertIsNone(got)
                    continue
                least = min(price for price, _ in told)
                first = next(people for price, people in told if price == least)
                self.assertEqual([type(got), fraction(got[0]), type(got[0]), got[1]], [tuple, least, Ratio, first])

    def test_cheapest_by_hand(self):
        draw = read_draw("open(ann 1/2 1/2 *0; open(bob 1/2 1/2 *0; no, yes), open(cid 1/2 1/2 *0; no, yes))")
        self.assertEqual(cheapest_force(draw, ["yes"], {"ann": 1, "bob": 1, "cid": 1}), (2, ("ann", "bob")))
        self.assertEqual(cheapest_force(draw, ["yes"], {"ann": 1, "bob": 2, "cid": 1}), (2, ("ann", "cid")))
        self.assertEqual(cheapest_force(draw, ["yes"], {"ann": 0, "bob": 0, "cid": 0}), (0, ("ann", "bob")))
        self.assertEqual(cheapest_force(draw, ["yes"], {"ann": 3, "bob": 1, "cid": Ratio(3, 2)}), (Ratio(5, 2), ("bob", "cid")))
        self.assertEqual(cheapest_force(draw, ["no", "yes"], {"ann": 0, "bob": 0, "cid": 0}), (0, ()))
        self.assertIsNone(cheapest_force(draw, [], {"ann": 0, "bob": 0, "cid": 0}))
        self.assertEqual(cheapest_force(End("no"), ["no"], {}), (0, ()))


class FamilyTest(unittest.TestCase):
    def check(self, people, sets):
        draw = family_draw(people=people, sets=sets)
        self.assertIs(is_turns(draw), True)
        self.assertTrue(set(draw.ends()) <= {"no", "yes"} and set(draw.people()) <= set(people))
        self.assertLessEqual(draw.depth(), len(people))
        for path in draw.paths():
            for step in range(len(path)):
                (_, shares, stand_in), = draw.at(path[:step]).givers
                self.assertEqual([list(shares), stand_in], [FAIR, 0])
        for some in sets_of(people):
            due = any(set(chosen) <= set(some) for chosen in sets)
            self.assertIs(can_force(draw, some, ["yes"]), due, (people, sets, some))
        return draw

    def test_all_families_of_three(self):
        people = ["bob", "ann", "cid"]
        subsets = sets_of(people)
        for many in range(len(subsets) + 1):
            for sets in combinations(subsets, many):
                self.check(people, list(sets))

    def test_families_of_up_to_six(self):
        source = random.Random(88)
        for _ in range(60):
            people = source.sample(["ann", "bob", "cid", "dan", "eve", "fay", "a", "open"], source.randrange(1, 7))
            sets = [source.sample(people, source.randrange(1, len(people) + 1)) for _ in range(source.randrange(6))]
            draw = self.check(people, sets + sets[:1])
            self.assertEqual(family_draw(tuple(people), tuple([tuple(chosen[::-1]) for chosen in sets[::-1]])), draw)
        six = ["ann", "bob", "cid", "dan", "eve", "fay"]
        self.check(six, list(combinations(six, 3)))
        self.assertEqual(forcing_sets(family_draw(six, list(combinations(six, 4))), ["yes"]), list(combinations(six, 4)))

    def test_edges(self):
        self.assertEqual([family_draw(["ann"], []), family_draw(["ann", "bob"], ())], [End("no"), End("no")])
        self.assertEqual([family_draw(["ann"], [[]]), family_draw(["ann", "bob"], [["ann"], ()])], [End("yes"), End("yes")])
        self.assertEqual(family_draw(["ann"], [["ann"]]).text(), "open(ann 1/2 1/2 *0; no, yes)")

    def test_bad_names(self):
        six = ["a", "b", "c", "d", "e", "f", "g"]
        wrong = [[], (), six, ["ann", "ann"], ["Ann"], ["ann", ""], ["ann", None], ["toolongname"], "ann", {"ann": 1}, [["ann"]], [1], ["a b"]]
        for value in wrong + [value for value in wrong_values() if value != ["ann"] and value != ("no",)]:
            assert_raises(self, BadNames, "given", value, lambda: family_draw(value, None))

    def test_bad_families(self):
        wrong = [None, "ann", {}, [["zoe"]], [["ann", "ann"]], [["ann"], ["bob", "zoe"]], ["ann"], [["ann"], None], [[None]], [[["ann"]]],
                 [{"ann": 1}], [["ann"], "bob"], (("ann",), ("ann", True)), {"ann": []}, [["ann"], [End("a")]], [[Ratio(1)]]]
        for value in wrong + [value for value in wrong_values() if value != [] and value != ()]:
            assert_raises(self, BadFamily, "given", value, lambda: family_draw(["ann", "bob"], value))


class TwoDrawsTest(unittest.TestCase):
    def test_small_draws(self):
        source = random.Random(89)
        alike = parted = 0
        draws = [draw for draw in some_turns(89, 200) if draw.ends() == ["no", "yes"]]
        pairs = list(zip(draws, draws[1:])) + [(draw, draw) for draw in draws]
        for names in (["a", "b", "c"], ["a", "b", "c", "d"], ["a", "b", "c", "d", "e"]):
            more_draws = [random_turns(source, 3, names, PEOPLE[:3]) for _ in range(150)]
            more_draws = [draw for draw in more_draws if draw.ends() == names]
            pairs.extend(zip(more_draws, more_draws[1:]))
            # Two further draws that change their places: often, but not always, alike in force.
            pairs.extend((draw, Round("open", draw.givers, draw.draws[::-1])) for draw in more_draws)
            pairs.extend((draw, with_ends(draw, dict(zip(names, names[1:] + names[:1])))) for draw in more_draws)
        for one, other in pairs:
            if one.ends() != other.ends():
                continue
            apart = []
            for people in sets_of(sorted(set(one.people()) | set(other.people()))):
                for names in sets_of(one.ends()):
                    if can_force(one, people, names) != can_force(other, people, names):
                        apart.append((people, names))
            self.assertIs(alike_in_force(one=one, other=other), not apart)
            got = parting_force(one=one, other=other)
            if apart:
                self.assertIn(got, apart)
                self.assertEqual([type(got), type(got[0]), type(got[1])], [tuple, tuple, tuple])
                parted += 1
            else:
                self.assertIsNone(got)
                alike += 1
        self.assertTrue(alike > 60 and parted > 60, (alike, parted))

    def test_other_people(self):
        one = read_draw("open(ann 1/2 1/2 *0; no, yes)")
        other = read_draw("open(bob 1/2 1/2 *0; no, yes)")
        self.assertIs(alike_in_force(one, other), False)
        both = read_draw("open(ann 1/2 1/2 *0; open(bob 1/2 1/2 *0; no, no), yes)")
        self.assertIs(alike_in_force(one, both), True)
        self.assertIs(alike_in_force(End("no"), read_draw("open(bob 1/3 2/3 *0; no, no)")), True)
        six = ["a", "b", "c", "d", "e", "f"]
        rest = ["g", "h", "i", "j", "k", "l"]
        people, names = parting_force(family_draw(six, [six]), family_draw(rest, [rest]))
        self.assertNotEqual(set(people) >= set(six) if names == ("yes",) else bool(set(people) & set(six)),
                            set(people) >= set(rest) if names == ("yes",) else bool(set(people) & set(rest)))

    def test_shares_and_order_of_turns_do_not_matter(self):
        one = read_draw("open(ann 1/3 2/3 *1; open(bob 1/2 1/2 *0; a, b), a)")
        other = read_draw("open(bob 1/4 1/4 1/2 *0; a, open(ann 1/2 1/2 *1; a, b), a)")
        self.assertIs(alike_in_force(one, other), True)

    def test_errors(self):
        for other in (unlike(), more(), of_kind(turns(), "sealed")):
            for call in (alike_in_force, parting_force):
                assert_raises(self, NotTurns, None, None, lambda: call(turns(), other))
                assert_raises(self, NotTurns, None, None, lambda: call(other, turns()))
                assert_raises(self, NotTurns, None, None, lambda: call(End("zoe"), other))
                assert_raises(self, UnlikeEnds, None, None, lambda: call(turns(), End("no")))


class ErrorsTest(unittest.TestCase):
    def test_not_turns(self):
        for draw in [draw for draw in many_draws() if not is_turns(draw)]:
            for call in (lambda: forces(draw, None, None), lambda: strategy(draw, None, None), lambda: is_strategy(draw, None, None, None),
                         lambda: forcing_sets(draw, None), lambda: cheapest_force(draw, None, None)):
                assert_raises(self, NotTurns, None, None, call)

    def test_bad_people(self):
        for value in wrong_lists(["ann", "bob"]):
            for call in (lambda: forces(turns(), value, None), lambda: strategy(turns(), value, None), lambda: is_strategy(turns(), value, None, None)):
                assert_raises(self, BadLiars, "given", value, call)

    def test_bad_names(self):
        for value in wrong_lists(["no", "yes"]):
            for call in (lambda: forces(turns(), ["ann"], value), lambda: strategy(turns(), [], value),
                         lambda: is_strategy(turns(), ["bob"], value, None), lambda: forcing_sets(turns(), value),
                         lambda: cheapest_force(turns(), value, None)):
                assert_raises(self, BadNames, "given", value, call)

    def test_bad_prices(self):
        for value in wrong_prices(["ann", "bob"]):
            assert_raises(self, BadPrices, "given", value, lambda: cheapest_force(turns(), ["no"], value))

    def test_arguments_stay_and_results_are_new(self):
        draw, people, names, prices = turns(), ["bob"], ["no"], {"bob": 1, "ann": 0}
        text = draw.text()
        told, sets = strategy(draw, people, names), forcing_sets(draw, names)
        told.clear()
        sets.clear()
        self.assertEqual([strategy(draw, people, names), forcing_sets(draw, names)], [{((1,),): 0}, [("ann",), ("bob",)]])
        cheapest_force(draw, names, prices)
        self.assertEqual([draw.text(), people, names, list(prices.items())], [text, ["bob"], ["no"], [("bob", 1), ("ann", 0)]])
        family = [["ann"], ["bob", "ann"]]
        made = family_draw(["ann", "bob"], family)
        text = made.text()
        family[0].append("bob")
        self.assertEqual(made.text(), text)


if __name__ == "__main__":
    unittest.main()
