import random
import unittest

from jointdraws.draws import End, read_draw
from jointdraws.errors import (
    BadCount, BadLiars, BadPath, BadPlan, BadStake, BadWish, NoPerson, NothingToUndo, NotNow)
from jointdraws.live import Live
from jointdraws.plans import plans, runs
from jointdraws.ratios import Ratio
from jointdraws.worths import best_plan, table
from tests.brute import best_from, honest_rows, random_draw, random_wish, small_games
from tests.samples import (
    MIXED_TEXT, TURNS_TEXT, assert_raises, fraction, many_draws, unlike, wrong_amounts, wrong_lists, wrong_values, wrong_wishes)

LAST_TEXT = ("last(ann 1/2 1/2 *0, bob 1/3 2/3 *1; no, yes, held(ann 1/3 2/3 *1, bob 1/2 1/2 *0; no, yes, yes, no), "
             "last(ann 1/4 3/4 *0; yes, open(ann 1/2 1/2 *1; no, yes)))")


def told(live):
    """All that a live draw answers, but for worths."""
    return (live.now.text(), live.path(), live.out(), live.held(), live.end(), live.waiting(), live.known(), len(live))


class Naive:
    """A live draw that keeps its deeds in a list and reckons all from these."""

    def __init__(self, draw):
        self.draw, self.deeds = draw, []

    def state(self):
        here, path, out, held, given, holders = self.draw, (), [], 0, {}, []
        for deed in self.deeds:
            if deed[0] == "give":
                given[deed[1]] = deed[2]
            elif deed[0] == "hold":
                holders.append(deed[1])
                held += 1
            else:
                row = tuple(stand_in if person in out or person in holders else given[person] for person, _, stand_in in here.givers)
                out = out + holders if here.kind == "last" else out
                here, path, given, holders = here.at((row,)), path + (row,), {}, []
        return here, path, out, held, given, holders

    def told(self):
        here, path, out, held, given, _ = self.state()
        people = [] if isinstance(here, End) else [giver[0] for giver in here.givers]
        waiting = sorted(person for person in people if person not in out and person not in given)
        seen = given if people and (here.kind == "open" or not waiting) else {}
        end = here.name if isinstance(here, End) else None
        return (here.text(), path, sorted(out), held, end, waiting, seen, len(self.deeds))

    def possible(self):
        """All deeds that can be done next."""
        here, _, out, _, given, holders = self.state()
        if isinstance(here, End):
            return []
        active = [giver for giver in here.givers if giver[0] not in out]
        open_ones = [giver for giver in active if giver[0] not in given]
        if open_ones:
            return [("give", person, number) for person, shares, _ in open_ones for number in range(len(shares))]
        holds = [("hold", giver[0]) for giver in active if giver[0] not in holders] if here.kind in ("held", "last") else []
        return [("close",)] + holds


def do(live, deed):
    return getattr(live, deed[0])(*deed[1:])


def some_draws(seed, many):
    source = random.Random(seed)
    draws = many_draws() + [read_draw(LAST_TEXT)]
    return draws + [random_draw(source, 4, ["no", "yes", "maybe"], most=3) for _ in range(many)]


class DeedsTest(unittest.TestCase):
    def test_at_first(self):
        for draw in some_draws(121, 10):
            live = Live(draw=draw)
            self.assertEqual(told(live), Naive(draw).told())
            self.assertEqual((live.path(), live.out(), live.held(), len(live), live.now == draw), ((), [], 0, 0, True))

    def test_random_deeds_and_undoing_them(self):
        source = random.Random(122)
        for draw in some_draws(122, 60):
            live, naive, before = Live(draw), Naive(draw), []
            while naive.possible():
                deed = source.choice(naive.possible())
                before.append((deed[0], told(live)))
                self.assertIsNone(do(live, deed))
                naive.deeds.append(deed)
                self.assertEqual(told(live), naive.told())
                self.assertEqual(told(live), told(live))
            for word, answers in reversed(before):
                self.assertEqual(live.undo(), word)
                self.assertEqual(told(live), answers)
            with self.assertRaises(NothingToUndo):
                live.undo()

    def test_every_wrong_deed(self):
        source = random.Random(123)
        for draw in some_draws(123, 30):
            live, naive = Live(draw), Naive(draw)
            while True:
                here, _, out, _, given, holders = naive.state()
                answers, possible = told(live), naive.possible()
                people = [] if isinstance(here, End) else [giver[0] for giver in here.givers]
                for person in ["ann", "bob", "cid", "dan", "eve"]:
                    if person not in people:
                        assert_raises(self, NoPerson, "given", person, lambda: live.give(person, 0))
                        assert_raises(self, NoPerson, "given", person, lambda: live.give(person, None))
                        assert_raises(self, NoPerson, "given", person, lambda: live.hold(person))
                        continue
                    if person in out or person in given:
                        assert_raises(self, NotNow, "given", person, lambda: live.give(person, 0))
                        assert_raises(self, NotNow, "given", person, lambda: live.give(person, "x"))
                    else:
                        many = len(here.givers[people.index(person)][1])
                        for number in [-1, many, True, False, None, Ratio(0), Ratio(1), "0", [0], (0,), {}, End("a")]:
                            assert_raises(self, BadCount, "given", number, lambda: live.give(person, number))
                    if ("hold", person) not in possible:
                        assert_raises(self, NotNow, "given", person, lambda: live.hold(person))
                if ("close",) not in possible:
                    with self.assertRaises(NotNow) as caught:
                        live.close()
                    self.assertEqual(caught.exception.given, live.waiting())
                self.assertEqual(told(live), answers)
                if not possible:
                    break
                deed = source.choice(possible)
                do(live, deed)
                naive.deeds.append(deed)

    def test_wrong_people(self):
        live = Live(unlike())
        for value in wrong_values() + ["cid", "Ann", ["ann"], ("ann",)]:
            assert_raises(self, NoPerson, "given", value, lambda: live.give(value, None))
            assert_raises(self, NoPerson, "given", value, lambda: live.hold(value))
        self.assertEqual(len(live), 0)
        live.give("ann", 1)
        for value in wrong_values():
            assert_raises(self, NotNow, "given", "ann", lambda: live.give("ann", value))
            if type(value) is not int or value not in (0, 1):
                assert_raises(self, BadCount, "given", value, lambda: live.give("bob", value))
        self.assertEqual(live.give(person="bob", number=0), None)
        self.assertEqual(live.hold(person="bob"), None)
        assert_raises(self, NotNow, "given", "bob", lambda: live.hold("bob"))

    def test_rounds_all_of_whose_givers_are_out(self):
        live = Live(read_draw(LAST_TEXT))
        for deed in [("give", "bob", 1), ("give", "ann", 1), ("hold", "ann"), ("hold", "bob")]:
            do(live, deed)
        self.assertEqual((live.out(), live.held(), live.known()), ([], 2, {"ann": 1, "bob": 1}))
        live.close()
        self.assertEqual((live.path(), live.out(), live.end()), (((0, 1),), ["ann", "bob"], "yes"))
        live = Live(read_draw("last(ann 1/2 1/2 *1; no, held(ann 1/2 1/2 *0; yes, no))"))
        live.give("ann", 0)
        live.hold("ann")
        live.close()
        self.assertEqual((live.waiting(), live.known(), live.out(), live.held()), ([], {}, ["ann"], 1))
        assert_raises(self, NotNow, "given", "ann", lambda: live.give("ann", 0))
        assert_raises(self, NotNow, "given", "ann", lambda: live.hold("ann"))
        live.close()
        self.assertEqual((live.path(), live.end(), live.held()), (((1,), (0,)), "yes", 1))

    def test_known_numbers(self):
        live = Live(read_draw("open(bob 1/2 1/2 *0, ann 1/2 1/2 *0; no, yes, no, sealed(ann 1/2 1/2 *0, cid 1/2 1/2 *1; no, yes, yes, no))"))
        live.give("ann", 1)
        self.assertEqual(live.known(), {"ann": 1})
        live.give("bob", 1)
        self.assertEqual(live.known(), {"ann": 1, "bob": 1})
        live.known()["ann"] = 0
        live.waiting().append("eve")
        live.out().append("ann")
        live.close()
        self.assertEqual(live.path(), ((1, 1),))
        live.give("cid", 0)
        self.assertEqual((live.known(), live.waiting()), ({}, ["ann"]))
        live.give("ann", 0)
        self.assertEqual(live.known(), {"ann": 0, "cid": 0})
        assert_raises(self, NotNow, "given", "ann", lambda: live.hold("ann"))


class BlocksTest(unittest.TestCase):
    def test_blocks_in_blocks(self):
        source = random.Random(131)
        for draw in some_draws(131, 30)[8:]:
            live, naive = Live(draw), Naive(draw)
            self.blocks(live, naive, source, 3)
            self.assertEqual(told(live), naive.told())

    def blocks(self, live, naive, source, depth):
        begun = len(naive.deeds)
        for _ in range(6):
            possible = naive.possible()
            what = source.choice(["deed", "deed", "undo", "block", "tried", "error"])
            if what == "deed" and possible:
                deed = source.choice(possible)
                do(live, deed)
                naive.deeds.append(deed)
            elif what == "undo":
                if len(naive.deeds) == begun:
                    self.assertRaises(NothingToUndo, live.undo)
                else:
                    self.assertEqual(live.undo(), naive.deeds.pop()[0])
            elif depth and what in ("block", "tried", "error"):
                answers, kept = told(live), list(naive.deeds)
                if what == "tried":
                    due = object()

                    def work(inner):
                        self.assertIs(inner, live)
                        self.blocks(live, naive, source, depth - 1)
                        return due
                    self.assertIs(live.tried(work), due)
                elif what == "block":
                    with live.trial() as inner:
                        self.assertIs(inner, live)
                        self.blocks(live, naive, source, depth - 1)
                else:
                    with self.assertRaises(KeyError):
                        with live.trial():
                            self.blocks(live, naive, source, depth - 1)
                            raise KeyError("left")
                naive.deeds = kept
                self.assertEqual(told(live), answers)
            self.assertEqual(told(live), naive.told())

    def test_one_object_for_several_blocks(self):
        live = Live(unlike())
        trial = live.trial()
        live.give("ann", 1)
        for number in (0, 1):
            with trial as inner:
                self.assertIs(inner, live)
                self.assertRaises(NothingToUndo, live.undo)
                live.give("bob", number)
                live.close()
                self.assertEqual(live.end(), ["yes", "no"][number])
            self.assertEqual((live.waiting(), live.known(), len(live)), (["bob"], {}, 1))
            if number == 0:
                live.undo()
                live.give("ann", 1)
        self.assertEqual(live.undo(), "give")

    def test_errors_leave_blocks(self):
        live = Live(unlike())
        live.give("ann", 1)

        def work(inner):
            inner.give("bob", 1)
            inner.give("eve", 1)

        assert_raises(self, NoPerson, "given", "eve", lambda: live.tried(work))
        self.assertEqual(live.waiting(), ["bob"])
        with self.assertRaises(BadCount):
            with live.trial():
                live.give("bob", 0)
                with live.trial():
                    live.hold("bob")
                    live.close()
                    raise BadCount(3)
        self.assertEqual((len(live), live.held(), live.waiting()), (1, 0, ["bob"]))
        self.assertEqual(live.tried(work=lambda inner: inner.waiting()), ["bob"])
        self.assertEqual(live.undo(), "give")

    def test_returning_from_a_block(self):
        live = Live(unlike())

        def asked():
            with live.trial() as inner:
                inner.give("ann", 0)
                return inner.waiting()
        self.assertEqual((asked(), len(live), live.waiting()), (["bob"], 0, ["ann", "bob"]))


class WorthTest(unittest.TestCase):
    def test_as_the_table(self):
        source = random.Random(124)
        for draw, liars in small_games(124, 25):
            wish, stake = random_wish(source, draw), source.choice([0, 1, Ratio(1, 7)])
            due = table(draw, liars, wish, stake=stake)
            live, naive = Live(draw), Naive(draw)
            while True:
                if not naive.state()[4] and not naive.state()[5]:
                    start = (live.path(), tuple(live.out()))
                self.assertEqual(live.worth(liars=liars, wish=wish, stake=stake), due[start])
                self.assertEqual(live.worth(tuple(liars), wish, stake=stake), due[start])
                # Honest people do not hold back here, so that all that comes is a spot.
                possible = [deed for deed in naive.possible() if deed[0] != "hold" or deed[1] in liars]
                if not possible:
                    break
                deed = source.choice(possible)
                do(live, deed)
                naive.deeds.append(deed)

    def test_honest_people_who_are_out(self):
        source = random.Random(125)
        for draw in some_draws(125, 25):
            live, naive, people = Live(draw), Naive(draw), draw.people()
            liars = source.sample(people, source.randrange(len(people) + 1))
            wish = random_wish(source, draw)
            while naive.possible():
                deed = source.choice(naive.possible())
                do(live, deed)
                naive.deeds.append(deed)
                if deed == ("close",):
                    here, _, out, _, _, _ = naive.state()
                    self.assertEqual(fraction(live.worth(liars, wish, stake=Ratio(1, 3))), self.due(here, liars, out, wish))

    def due(self, here, liars, out, wish):
        # Whoever is out is as good as a liar with nothing to do.
        return best_from(here, list(liars) + [person for person in out if person not in liars], tuple(sorted(out)), wish, Ratio(1, 3))

    def test_errors(self):
        live = Live(read_draw(MIXED_TEXT))
        with live.trial():
            live.give("ann", 1)
            live.give("bob", 1)
            live.close()
            self.assertEqual(live.now.people(), ["cid"])
            win = {"no": 0, "yes": 1}
            self.assertEqual(live.worth(["ann", "cid"], win), 1)
            for value in wrong_lists(["ann", "bob", "cid"]):
                assert_raises(self, BadLiars, "given", value, lambda: live.worth(value, None, stake=None))
            for value in wrong_wishes(["no", "yes"]):
                assert_raises(self, BadWish, "given", value, lambda: live.worth(["ann"], value, stake=None))
            for value in wrong_amounts():
                assert_raises(self, BadStake, "given", value, lambda: live.worth([], win, stake=value))
            self.assertEqual((live.now.people(), len(live)), (["cid"], 3))


class FollowTest(unittest.TestCase):
    def test_all_runs_of_plans(self):
        source = random.Random(126)
        for draw, liars in small_games(126, 25, most=60):
            for plan in source.sample(list(plans(draw, liars)), min(6, len(list(plans(draw, liars))))):
                wayed = self.all_ways(draw, liars, plan)
                self.assertEqual(len(wayed), len(runs(draw, liars, plan)))
                for (numbers, part), (path, held, due) in zip(wayed, runs(draw, liars, plan)):
                    live = Live(draw)
                    self.assertIsNone(live.follow(liars=liars, plan=plan, numbers=numbers))
                    self.assertEqual((live.path(), live.held(), part), (path, held, fraction(due)))
                    self.assertIsNotNone(live.end())
                    again = Live(draw)
                    again.follow(tuple(liars), plan, tuple(numbers))
                    self.assertEqual(told(again), told(live))

    def all_ways(self, draw, liars, plan):
        """All lists of the numbers of the honest people, with their chances, in the order of the items."""
        done, waiting = [], [([], 1)]
        while waiting:
            numbers, part = waiting.pop()
            live, then = Live(draw), plan
            for seen in numbers:
                places = [row for row, _ in honest_rows(live.now, liars)]
                given, held, then = then[places.index(seen)]
                acting = [giver[0] for giver in live.now.givers if giver[0] in liars and giver[0] not in live.out()]
                honest = [giver[0] for giver in live.now.givers if giver[0] not in liars]
                for person, number in list(zip(acting, given)) + list(zip(honest, seen)):
                    live.give(person, number)
                for person in held:
                    live.hold(person)
                live.close()
            if live.end() is not None:
                done.append((numbers, part))
            else:
                for seen, share in reversed(honest_rows(live.now, liars)):
                    waiting.append((numbers + [seen], part * share))
        return done

    def test_single_deeds(self):
        draw = read_draw("last(bob 1/2 1/2 *0, ann 1/2 1/2 *0, cid 1/2 1/2 *1; "
                         "no, yes, no, no, no, no, no, open(ann 1/2 1/2 *1, cid 1/2 1/2 *0; no, yes, no, no))")
        liars = ["cid", "ann"]
        live = Live(draw)
        plan = (((1, 1), ("ann", "cid"), ()), ((1, 1), ("ann", "cid"), ()))
        live.follow(liars, plan, [(1,)])
        self.assertEqual(live.path(), ((1, 0, 1),))
        states = []
        while len(live):
            states.append((live.waiting(), live.held(), live.undo()))
        self.assertEqual(states, [([], 2, "close"), ([], 2, "hold"), ([], 1, "hold"), ([], 0, "give"), (["cid"], 0, "give"), (["ann", "cid"], 0, "give")])

    def test_end_alone(self):
        live = Live(End("no"))
        self.assertIsNone(live.follow([], (), []))
        self.assertEqual((live.end(), len(live), live.waiting(), live.known()), ("no", 0, [], {}))
        self.assertIsNone(live.follow([], (), ()))
        numbers = [()]
        assert_raises(self, BadPath, "given", numbers, lambda: live.follow([], (), numbers))
        self.assertEqual(live.worth([], {"no": 7}), 7)
        with self.assertRaises(NotNow) as caught:
            live.close()
        self.assertEqual(caught.exception.given, [])

    def test_errors(self):
        draw = read_draw(TURNS_TEXT)
        live = Live(draw)
        plan = best_plan(draw, ["ann"], {"no": 0, "yes": 1})
        good = [(), (1,)]
        for value in wrong_lists(["ann", "bob"]):
            assert_raises(self, BadLiars, "given", value, lambda: live.follow(value, None, None))
        for value in wrong_values() + [list(plan), plan + plan, (((1,), (), [()]),), (((True,), (), plan[0][2]),)]:
            assert_raises(self, BadPlan, "given", value, lambda: live.follow(["ann"], value, None))
        for value in wrong_values() + [[()], [(), (1,), ()], [(), (2,)], [(), (True,)], [(), (Ratio(1),)], [(), [1]], [[], (1,)], [(1,), (1,)],
                                       [(), (1, 1)], [(), ()], {0: (), 1: (1,)}, "ab", [(), None]]:
            assert_raises(self, BadPath, "given", value, lambda: live.follow(["ann"], plan, value))
        self.assertEqual(told(live), told(Live(draw)))
        live.follow(["ann"], plan, good)
        self.assertEqual(live.end(), "yes")
        with self.assertRaises(NotNow) as caught:
            live.follow(None, None, None)
        self.assertEqual(caught.exception.given, [])

    def test_not_now(self):
        live = Live(unlike())
        plan = best_plan(unlike(), [], {"no": 0, "yes": 1})
        live.give("bob", 0)
        with self.assertRaises(NotNow) as caught:
            live.follow([], plan, [(0, 1)])
        self.assertEqual(caught.exception.given, ["ann"])
        with live.trial():
            self.assertRaises(NotNow, live.follow, [], plan, [(0, 1)])
        live.undo()
        with live.trial():
            live.follow([], plan, [(0, 1)])
            self.assertEqual((live.end(), len(live)), ("yes", 3))
            self.assertEqual(live.undo(), "close")
            with live.trial():
                self.assertRaises(NotNow, live.follow, [], plan, [(0, 1)])
        self.assertEqual((len(live), live.end()), (0, None))
        live.follow([], plan, [(0, 0)])
        self.assertEqual(live.end(), "no")


if __name__ == "__main__":
    unittest.main()
