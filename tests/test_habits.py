import random
import unittest
from fractions import Fraction
from itertools import product

from jointdraws.built import replaced, with_ends
from jointdraws.draws import End, Round, read_draw
from jointdraws.duels import duel
from jointdraws.errors import BadHabit, BadLiars, BadWishes, NotTurns, TooMany
from jointdraws.habits import (
    better_number, breakers, broken, got, habit_shares, is_settled, settled_bounds, settled_habits)
from jointdraws.honest import honest_mean, honest_shares
from jointdraws.ratios import Ratio
from jointdraws.worths import worth
from tests.brute import PEOPLE, random_draw, random_wish, sets_of
from tests.samples import (
    FAIR, TURNS_TEXT, assert_raises, fraction, more, unlike, wrong_lists, wrong_values, wrong_wishes)

WIN = {"no": 0, "yes": 1}


def turn_paths(draw, people, path=()):
    """The paths to the turns of some people, ascending, with the numbers that can be given there."""
    if isinstance(draw, End):
        return {}
    found = {path: len(draw.draws)} if draw.givers[0][0] in people else {}
    for number, further in enumerate(draw.draws):
        found.update(turn_paths(further, people, path + ((number,),)))
    return found


def all_habits(draw, people):
    paths = turn_paths(draw, people)
    return [dict(zip(paths, row)) for row in product(*[range(many) for many in paths.values()])]


def chances(draw, people, habit, path=()):
    """The chances of the names of ends from a path on if a habit is kept."""
    here = draw.at(path)
    if isinstance(here, End):
        return {here.name: Fraction(1)}
    found = {}
    for number, share in enumerate(here.givers[0][1]):
        part = fraction(share) if here.givers[0][0] not in people else Fraction(int(habit[path] == number))
        if part:
            for name, chance in chances(draw, people, habit, path + ((number,),)).items():
                found[name] = found.get(name, 0) + part * chance
    return found


def gets(draw, wishes, habit, person, path=()):
    return sum(part * fraction(wishes[person][name]) for name, part in chances(draw, wishes, habit, path).items())


def first_better(draw, wishes, habit):
    """The first path at which another number is better, and the first best number there."""
    for path in sorted(habit):
        here = draw.at(path)
        values = [gets(draw, wishes, habit, here.givers[0][0], path + ((number,),)) for number in range(len(here.draws))]
        if max(values) > values[habit[path]]:
            return path, values.index(max(values))
    return None


def can_break(draw, wishes, habit, people):
    """All habits by which some people break a habit."""
    mine = [path for path in habit if draw.at(path).givers[0][0] in people]
    found = []
    for row in product(*[range(len(draw.at(path).draws)) for path in mine]):
        other = {**habit, **dict(zip(mine, row))}
        if people and all(gets(draw, wishes, other, person) > gets(draw, wishes, habit, person) for person in people):
            found.append(other)
    return found


def small_contests(seed, many, most=40, depth=3, even=False):
    """Draws of turns with selfish people, in which there are few habits."""
    source = random.Random(seed)
    while many:
        draw = random_draw(source, source.choice([1, 2, depth]), ["no", "yes", "maybe"], PEOPLE[:3], kinds=["open"], most=1)
        people = draw.people()
        selfish = source.sample(people, source.randrange(len(people) + 1))
        if 1 <= len(all_habits(draw, selfish)) <= most:
            numbers = {person: {name: source.randrange(2 if even else 9) for name in draw.ends()} for person in selfish}
            yield draw, source.choice([numbers, {person: random_wish(source, draw) for person in selfish}])
            many -= 1


def as_list(habit):
    return [habit[path] for path in sorted(habit)]


class OutcomesTest(unittest.TestCase):
    def test_all_habits(self):
        for draw, wishes in small_contests(152, 40):
            for habit in all_habits(draw, wishes)[:12]:
                due = chances(draw, wishes, habit)
                shares = habit_shares(draw=draw, wishes=wishes, habit=habit)
                self.assertEqual(list(shares), draw.ends())
                self.assertEqual({name: fraction(shares[name]) for name in shares}, {name: due.get(name, 0) for name in draw.ends()})
                told = got(draw=draw, wishes=wishes, habit=habit)
                self.assertEqual(list(told), sorted(wishes))
                self.assertEqual([fraction(told[person]) for person in told], [gets(draw, wishes, habit, person) for person in told])
                self.assertTrue(all(isinstance(part, Ratio) for part in list(shares.values()) + list(told.values())))

    def test_nobody_selfish(self):
        draw = read_draw("open(ann 1/3 2/3 *0; no, open(bob 1/5 4/5 *0; yes, no))")
        self.assertEqual([habit_shares(draw, {}, {}), got(draw, {}, {})], [honest_shares(draw), {}])
        self.assertEqual([settled_habits(draw, {}), settled_bounds(draw, {}), is_settled(draw, {}, {})], [[{}], {}, True])
        self.assertEqual([better_number(draw, {}, {}), breakers(draw, {}, {}), broken(draw, {}, {}, [])], [None, None, None])
        self.assertEqual([settled_habits(End("no"), {}), is_settled(End("no"), {}, {}), is_settled(draw, {}, {(): 0})], [[{}], True, False])


class SettledTest(unittest.TestCase):
    def test_all_habits(self):
        alike = 0
        for draw, wishes in list(small_contests(153, 40)) + list(small_contests(154, 30, even=True)):
            due = []
            for habit in all_habits(draw, wishes):
                better = first_better(draw, wishes, habit)
                self.assertEqual(better_number(draw=draw, wishes=wishes, habit=habit), better)
                self.assertIs(is_settled(draw=draw, wishes=wishes, value=habit), better is None)
                if better is None:
                    due.append(habit)
            told = settled_habits(draw=draw, wishes=wishes)
            self.assertEqual(told, sorted(due, key=as_list))
            self.assertTrue(all(list(habit) == sorted(habit) for habit in told))
            self.assertTrue(told)
            alike += len(told) > 1
            bounds = settled_bounds(draw=draw, wishes=wishes)
            self.assertEqual(list(bounds), sorted(wishes))
            for person in bounds:
                means = [gets(draw, wishes, habit, person) for habit in due]
                self.assertEqual([fraction(part) for part in bounds[person]], [min(means), max(means)])
                self.assertTrue(isinstance(bounds[person], tuple) and isinstance(bounds[person][0], Ratio))
        self.assertGreater(alike, 5)

    def test_wishes_with_equal_numbers(self):
        draw = read_draw("open(ann 1/2 1/2 *0; open(bob 1/3 1/3 1/3 *0; no, yes, no), yes)")
        wishes = {"ann": {"no": 1, "yes": 1}, "bob": {"no": Ratio(2, 4), "yes": Ratio(1, 2)}}
        self.assertEqual([list(habit.values()) for habit in settled_habits(draw, wishes)], [[0, 0], [0, 1], [0, 2], [1, 0], [1, 1], [1, 2]])
        self.assertEqual(settled_bounds(draw, wishes), {"ann": (1, 1), "bob": (Ratio(1, 2), Ratio(1, 2))})

    def test_any_value(self):
        draw = read_draw(TURNS_TEXT)
        wishes = {"ann": WIN, "bob": WIN}
        good = {(): 1, ((1,),): 1}
        self.assertIs(is_settled(draw, wishes, good), True)
        wrong = [{(): 1}, {((1,),): 1}, {**good, ((0,),): 0}, {(): 1, ((1,),): 2}, {(): 1, ((1,),): -1}, {(): 1, ((1,),): Ratio(1)},
                 {(): True, ((1,),): 1}, {(): 1, ((1,),): True}, {(): (1,), ((1,),): 1}, {(): 1, (1,): 1}, [((), 1)], {(): 1, ((1,),): None}]
        for value in wrong + wrong_values():
            self.assertIs(is_settled(draw, wishes, value), False)
            assert_raises(self, BadHabit, "given", value, lambda: better_number(draw, wishes, value))

    def test_as_many_habits_as_are_gone_through(self):
        def tree(turns, further):
            return read_draw("open(ann 1/2 1/2 *0; %s, %s)" % (further, tree(turns - 1, further).text() if turns > 1 else further))
        most = tree(3, "no")
        for _ in range(5):
            most = Round("open", [("ann", [Ratio(1, 3)] * 3, 0)], [End("no"), End("yes"), most])
        # 3 * 3 * 3 * 3 * 3 * 2 * 2 * 2: with two, three and four numbers there is none nearer to 2000.
        self.assertEqual(len(settled_habits(most, {"ann": {"no": 1, "yes": 1}})), 1944)
        # Where yes still comes behind a turn, both ways are as good: that is so at four of the five turns.
        self.assertEqual(len(settled_habits(most, {"ann": WIN})), 8 * 2 ** 4)
        ten = tree(10, "yes")
        self.assertEqual(len(settled_habits(ten, {"ann": {"yes": 1}})), 1024)
        wide = Round("open", [("bob", FAIR, 0)], [tree(10, "yes"), End("no")])
        self.assertEqual(len(settled_habits(wide, {"ann": WIN})), 1024)
        for wishes, count in (({"ann": WIN, "bob": WIN}, 2048), ({"bob": WIN, "ann": {"no": Ratio(1, 2), "yes": 0}}, 2048)):
            for ask in (settled_habits, settled_bounds):
                with self.assertRaises(TooMany) as caught:
                    ask(wide, wishes)
                self.assertEqual(caught.exception.count, count)
            habit = {path: 0 for path in turn_paths(wide, wishes)}
            for ask in (breakers, lambda *given: broken(*given, []), lambda *given: broken(*given, ["ann"])):
                with self.assertRaises(TooMany) as caught:
                    ask(wide, wishes, habit)
                self.assertEqual(caught.exception.count, count)
            self.assertEqual(habit_shares(wide, wishes, habit), {"no": 0, "yes": 1})
        just = read_draw("open(ann 1/4 1/4 1/4 1/4 *0; %s, %s, no, yes)" % (tree(4, "no").text(), tree(4, "yes").text()))
        self.assertEqual(len(settled_habits(just, {"ann": {"no": 1, "yes": 1}})), 1024)
        just = read_draw("open(cid 1/5 4/5 *0; %s, open(ann 2/5 2/5 1/5 *0; no, no, no))" % tree(9, "no").text())
        self.assertEqual(len(settled_habits(just, {"ann": {"no": 1}})), 1536)
        just = read_draw("open(cid 1/5 4/5 *0; %s, open(ann 2/5 2/5 1/5 *0; open(ann 1/4 1/4 1/4 1/4 *0; no, no, no, no), no, no))" % tree(9, "no").text())
        with self.assertRaises(TooMany) as caught:
            settled_habits(just, {"ann": {"no": 1}})
        self.assertEqual(caught.exception.count, 512 * 12)


class BreakersTest(unittest.TestCase):
    def test_all_habits_and_people(self):
        found = {0: 0, 1: 0, 2: 0, 3: 0}
        for draw, wishes in list(small_contests(155, 25, most=16)) + list(small_contests(156, 25, most=16, even=True)):
            for habit in all_habits(draw, wishes):
                first = None
                for people in sets_of(wishes):
                    ways = can_break(draw, wishes, habit, people)
                    if ways and first is None:
                        first = people
                    told = broken(draw=draw, wishes=wishes, habit=habit, people=people)
                    self.assertEqual(told is None, not ways)
                    self.assertTrue(told is None or told in ways)
                    self.assertEqual(broken(draw, wishes, habit, list(people)[::-1]), told)
                self.assertEqual(breakers(draw=draw, wishes=wishes, habit=habit), first)
                found[len(first or ())] += 1
        self.assertTrue(found[0] and found[1] and found[2])

    def test_together_only(self):
        # Neither gets more by another number alone, but both do together.
        draw = read_draw("open(ann 1/2 1/2 *0; no, open(bob 1/2 1/2 *0; maybe, yes))")
        wishes = {"bob": {"no": 1, "maybe": 2, "yes": 1}, "ann": {"no": 1, "maybe": 0, "yes": 2}}
        self.assertEqual(breakers(draw, wishes, {(): 0, ((1,),): 0}), None)
        wishes["bob"]["yes"] = Ratio(3, 2)
        self.assertEqual(settled_habits(draw, wishes), [{(): 0, ((1,),): 0}])
        self.assertEqual(breakers(draw, wishes, {(): 0, ((1,),): 0}), ("ann", "bob"))
        self.assertEqual(broken(draw, wishes, {(): 0, ((1,),): 0}, ("bob", "ann")), {(): 1, ((1,),): 1})


class StatementsTest(unittest.TestCase):
    def test_nobody_alone_breaks_a_settled_habit(self):
        for draw, wishes in small_contests(157, 40):
            for habit in settled_habits(draw, wishes)[:5]:
                for person in wishes:
                    self.assertIsNone(broken(draw, wishes, habit, [person]))

    def test_one_wish(self):
        source = random.Random(158)
        for draw, wishes in small_contests(158, 40):
            wish = random_wish(source, draw)
            people = sorted(wishes)
            wishes = {person: wish for person in people}
            for habit in settled_habits(draw, wishes)[:5]:
                self.assertEqual(list(got(draw, wishes, habit).values()), [worth(draw, people, wish)] * len(people))
                self.assertIsNone(breakers(draw, wishes, habit))
            if not people:
                self.assertEqual(honest_mean(draw, wish), worth(draw, [], wish))

    def test_everybody_wants_the_same(self):
        source = random.Random(162)
        for draw, _ in small_contests(162, 40):
            wish = random_wish(source, draw)
            wishes = {person: wish for person in draw.people()}
            if len(all_habits(draw, wishes)) <= 500:
                best = max(fraction(wish[name]) for name in draw.ends())
                for habit in settled_habits(draw, wishes)[:5]:
                    self.assertEqual([fraction(part) for part in got(draw, wishes, habit).values()], [best] * len(wishes))
                    self.assertIsNone(breakers(draw, wishes, habit))

    def test_opposite_wishes(self):
        source = random.Random(159)
        for draw, _ in small_contests(159, 40):
            if len(draw.people()) > 1:
                one, other = source.sample(draw.people(), 2)
                wish = random_wish(source, draw)
                wishes = {one: wish, other: {name: -wish[name] for name in wish}}
                if len(all_habits(draw, wishes)) <= 500:
                    for habit in settled_habits(draw, wishes)[:5]:
                        self.assertEqual(got(draw, wishes, habit)[one], duel(draw, [one], [other], wish))

    def test_just_one_settled_habit(self):
        source = random.Random(160)
        for draw in [read_draw("open(ann 1/2 1/2 *0; a, open(bob 1/3 1/3 1/3 *0; b, c, open(ann 1/2 1/2 *0; d, e)))")]:
            for _ in range(20):
                wishes = {person: dict(zip(draw.ends(), source.sample(range(9), 5))) for person in draw.people()}
                self.assertEqual(len(settled_habits(draw, wishes)), 1)


class LargeTest(unittest.TestCase):
    def test_where_few_turns_are_selfish(self):
        often = read_draw("open(ann 1/2 1/2 *0; no, yes)")
        for _ in range(5):
            often = replaced(often, "no", replaced(often, "yes", often))
        draw = Round("open", [("bob", FAIR, 0)], [often, Round("open", [("ann", FAIR, 0)], [often, End("stop")])])
        part = honest_shares(often)["yes"]
        wishes = {"bob": {"no": 0, "stop": 1, "yes": 1}}
        self.assertEqual(settled_habits(draw, wishes), [{(): 1}])
        self.assertEqual(got(draw, wishes, {(): 0}), {"bob": part})
        self.assertEqual([breakers(draw, wishes, {(): 0}), better_number(draw, wishes, {(): 0})], [("bob",), ((), 1)])
        self.assertEqual(habit_shares(draw, wishes, {(): 1})["stop"], Ratio(1, 2))
        self.assertIs(is_settled(draw, {"ann": WIN | {"stop": 0}}, {(): 0}), False)

    def test_deep(self):
        draw = End("no")
        for at in range(300):
            draw = Round("open", [(["ann", "bob"][at == 150], FAIR, 0)], [End("yes"), draw])
        habit = {path: 1 for path in turn_paths_deep(draw, "bob")}
        self.assertIs(is_settled(draw, {"bob": {"no": 1, "yes": 0}}, habit), True)
        self.assertEqual(settled_habits(draw, {"bob": {"no": 1, "yes": 0}}), [habit])


def turn_paths_deep(draw, person):
    path = ()
    while not isinstance(draw, End):
        if draw.givers[0][0] == person:
            return [path]
        path, draw = path + ((1,),), draw.draws[1]
    return []


class ErrorsTest(unittest.TestCase):
    def asks(self, habit):
        return [lambda draw, wishes: habit_shares(draw, wishes, habit), lambda draw, wishes: got(draw, wishes, habit),
                lambda draw, wishes: better_number(draw, wishes, habit), lambda draw, wishes: breakers(draw, wishes, habit),
                lambda draw, wishes: broken(draw, wishes, habit, None)]

    def test_not_turns(self):
        two = read_draw("open(ann 1/2 1/2 *0, bob 1/2 1/2 *0; no, yes, yes, no)")
        for draw in (unlike(), more(), two):
            for ask in self.asks(None) + [settled_habits, settled_bounds, lambda draw, wishes: is_settled(draw, wishes, None)]:
                with self.assertRaises(NotTurns):
                    ask(draw, None)

    def test_wishes(self):
        draw = read_draw(TURNS_TEXT)
        wrong = [{"ann": value} for value in wrong_wishes(["no", "yes"])] + [{"eve": WIN}, {"ann": WIN, "zoe": WIN}, {0: WIN}, [("ann", WIN)],
                 {"ann": WIN, "bob": None}, {("ann",): WIN}, {None: WIN}, "ann", {"Ann": WIN}]
        for value in wrong + [value for value in wrong_values() if value != {}]:
            for ask in self.asks(None) + [settled_habits, settled_bounds, lambda draw, wishes: is_settled(draw, wishes, None)]:
                assert_raises(self, BadWishes, "given", value, lambda: ask(draw, value))

    def test_habits(self):
        draw = read_draw(TURNS_TEXT)
        wishes = {"bob": WIN}
        for value in wrong_values() + [{((1,),): 2}, {((1,),): True}, {((1,),): Ratio(0)}, {(): 0}, {((1,),): 0, (): 0}, {((0,),): 0}]:
            for ask in self.asks(value):
                assert_raises(self, BadHabit, "given", value, lambda: ask(draw, wishes))

    def test_people(self):
        draw = read_draw(TURNS_TEXT)
        for value in wrong_lists(["bob"]) + [["ann"], ["ann", "bob"]]:
            assert_raises(self, BadLiars, "given", value, lambda: broken(draw, {"bob": WIN}, {((1,),): 0}, value))

    def test_new_ones_on_each_call(self):
        draw, wishes = read_draw(TURNS_TEXT), {"ann": dict(WIN), "bob": dict(WIN)}
        told = settled_habits(draw, wishes)
        told[0].clear()
        habit = {(): 0, ((1,),): 0}
        changed = broken(draw, wishes, habit, ["ann", "bob"])
        changed[()] = 7
        self.assertEqual([settled_habits(draw, wishes), habit], [[{(): 1, ((1,),): 1}], {(): 0, ((1,),): 0}])
        self.assertEqual(wishes, {"ann": WIN, "bob": WIN})

    def test_other_names(self):
        for draw, wishes in small_contests(161, 10):
            other = with_ends(draw, {name: name + "x" for name in draw.ends()})
            named = {person: {name + "x": wishes[person][name] for name in wishes[person]} for person in wishes}
            self.assertEqual(settled_habits(other, named), settled_habits(draw, wishes))


if __name__ == "__main__":
    unittest.main()
