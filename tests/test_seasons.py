import random
import unittest

from jointdraws.budgets import most_holds, table_within, worth_within
from jointdraws.built import of_kind, replaced
from jointdraws.draws import End, Round, read_draw
from jointdraws.errors import BadBudget, BadLiars, BadPlans, BadSeason, BadStake, TooMany
from jointdraws.plans import is_plan
from jointdraws.ratios import Ratio, total
from jointdraws.seasons import joined, season_plans, season_score, season_worth, split
from jointdraws.worths import worth
from tests.brute import all_plans, count_of, random_draw, random_wish
from tests.purses import all_stands, best_of_season, most_of, score_of_plans
from tests.samples import (
    FAIR, MIXED_TEXT, MORE_TEXT, TURNS_TEXT, assert_raises, fraction, more, unlike, wrong_amounts, wrong_lists, wrong_values,
    wrong_wishes)
from tests.test_budgets import wrong_budgets

WIN = {"no": 0, "yes": 1}
LAST_TEXT = "last(ann 1/2 1/2 *0, bob 1/2 1/2 *1; no, yes, yes, no)"
LATER_TEXT = "held(bob 1/3 2/3 *0, cid 1/2 1/2 *1; no, yes, last(ann 1/2 1/2 *0; yes, no), no)"


def seasons(seed, many, most=3):
    """Seasons of one to three draws, with liars, budgets and stakes."""
    source = random.Random(seed)
    texts = ["no", LAST_TEXT, LATER_TEXT, MORE_TEXT, TURNS_TEXT, LAST_TEXT.replace("last", "held"),
             "last(ann 1/2 1/2 *1; yes, no)", "last(bob 1/4 3/4 *0, ann 1/2 1/2 *1; no, yes, maybe, no)"]
    while many:
        draws = [read_draw(source.choice(texts)) for _ in range(source.randrange(1, most + 1))]
        if source.random() < 0.4:
            draws[-1] = random_draw(source, 2, ["no", "yes"], ["ann", "bob", "cid"], ["held", "last"])
        season = [(draw, random_wish(source, draw)) for draw in draws]
        people = sorted({person for draw in draws for person in draw.people()})
        liars = source.sample(people, min(len(people), source.randrange(3)))
        if all(count_of(draw, liars) <= 300 for draw in draws):
            yield season, liars, source.choice([0, 1, 2, 3, 30]), source.choice([0, 0, 1, Ratio(1, 5)])
            many -= 1


class WorthsTest(unittest.TestCase):
    def test_all_ways_to_act(self):
        for season, liars, budget, stake in seasons(165, 60):
            due = best_of_season(season, liars, stake, 0, (), budget)
            told = season_worth(season=season, liars=liars, budget=budget, stake=stake)
            self.assertEqual(fraction(told), due)
            self.assertIsInstance(told, Ratio)
            self.assertEqual(season_worth(tuple(season), tuple(liars[::-1]), budget, stake=stake), told)

    def test_four_draws(self):
        for season, liars, budget, stake in seasons(176, 25, most=4):
            if len(season) == 4:
                due = best_of_season(season, liars, stake, 0, (), min(budget, 3))
                self.assertEqual(fraction(season_worth(season, liars, min(budget, 3), stake=stake)), due)
        both = [(unlike(), WIN)] * 4
        self.assertEqual([season_worth(both, ["bob"], budget).text() for budget in (0, 1, 4, 30)], ["2", "47/16", "4", "4"])

    def test_one_draw(self):
        for season, liars, budget, stake in seasons(166, 25, most=1):
            draw, wish = season[0]
            self.assertEqual(season_worth(season, liars, budget, stake=stake), worth_within(draw, liars, wish, budget, stake=stake))
            self.assertEqual(season_worth(season, liars, 30, stake=stake), worth(draw, liars, wish, stake=stake))

    def test_who_is_out_stays_out(self):
        season = [(read_draw(LAST_TEXT), WIN), (read_draw("open(ann 1/2 1/2 *0; no, yes)"), {"no": 0, "yes": 3})]
        # Ann could have the first end as well by holding back, but then 0 counts for her in the second draw.
        self.assertEqual(season_worth(season, ["ann"], 30), Ratio(7, 2))
        self.assertEqual(season_worth([season[0], (season[1][0], {"no": 0, "yes": Ratio(1, 3)})], ["ann"], 30), Ratio(7, 6))
        self.assertEqual(season_worth([(of_kind(season[0][0], "held"), WIN), season[1]], ["ann"], 30), 4)

    def test_large_draws(self):
        draw = read_draw("held(ann 1/2 1/2 *0, bob 1/2 1/2 *0; a, b, a, a)")
        for _ in range(4):
            draw = replaced(draw, "a", draw)
        wish = {"a": 0, "b": 1}
        one = worth_within(draw, ["ann"], wish, 30)
        self.assertEqual(season_worth([(draw, wish), (unlike(), WIN)], ["ann"], 30), one + worth(unlike(), ["ann"], WIN))


class PlansTest(unittest.TestCase):
    def test_plans_and_their_scores(self):
        held = 0
        for season, liars, budget, stake in seasons(167, 50):
            told = season_plans(season=season, liars=liars, budget=budget, stake=stake)
            self.assertEqual(sorted(told), sorted(all_stands(season, liars, budget)))
            for (place, out, left), plan in told.items():
                draw = season[place][0]
                self.assertIn(plan, all_plans(draw, liars, out))
                self.assertLessEqual(most_of(draw, liars, plan, out), left)
                held += most_of(draw, liars, plan, out)
            score = season_score(season=season, liars=liars, budget=budget, plans=told, stake=stake)
            self.assertEqual(score, season_worth(season, liars, budget, stake=stake))
            self.assertEqual(fraction(score), score_of_plans(season, liars, stake, told, 0, (), budget))
            self.assertIsInstance(score, Ratio)
        self.assertGreater(held, 10)

    def test_scores_of_other_plans(self):
        source = random.Random(168)
        for season, liars, budget, stake in seasons(168, 30):
            told = {}
            for place, out, left in all_stands(season, liars, budget):
                draw = season[place][0]
                told[(place, out, left)] = source.choice([plan for plan in all_plans(draw, liars, out) if most_of(draw, liars, plan, out) <= left])
            score = season_score(season, liars, budget, told, stake=stake)
            self.assertEqual(fraction(score), score_of_plans(season, liars, stake, told, 0, (), budget))
            self.assertFalse(season_worth(season, liars, budget, stake=stake).below(score))

    def test_wrong_plans(self):
        source = random.Random(169)
        for season, liars, budget, stake in seasons(169, 25):
            told = season_plans(season, liars, budget)
            stand = source.choice(sorted(told))
            place, out, left = stand
            wrong = [{key: told[key] for key in told if key != stand}, {**told, (place, out, 31): told[stand]}, {**told, (3, (), 0): told[stand]},
                     {**told, stand: None}, {**told, stand: list(told[stand])}, {**told, stand: told[stand] + (0,)}, list(told.items())]
            for plan in all_plans(season[place][0], liars, out):
                if most_of(season[place][0], liars, plan, out) > left:
                    wrong.append({**told, stand: plan})
                    break
            if told[stand] and told[stand][0][0]:
                (given, held, then), rest = told[stand][0], told[stand][1:]
                wrong += [{**told, stand: ((tuple(map(bool, given)), held, then),) + rest}, {**told, stand: ((given, list(held), then),) + rest}]
            for value in wrong + wrong_values():
                assert_raises(self, BadPlans, "given", value, lambda: season_score(season, liars, budget, value, stake=None))

    def test_liars_of_some_draws_only(self):
        season = [(read_draw(LAST_TEXT), WIN), (more(), WIN), (End("no"), {"no": 5})]
        told = season_plans(season, ["cid", "bob"], 2)
        self.assertEqual(sorted({stand[:2] for stand in told}), [(0, ()), (1, ()), (1, ("bob",)), (2, ()), (2, ("bob",))])
        self.assertTrue(all(is_plan(more(), ["cid"], told[stand]) for stand in told if stand[0] == 1))
        self.assertTrue(all(told[stand] == () for stand in told if stand[0] == 2))
        self.assertEqual(season_score(season, ["cid", "bob"], 2, told), season_worth(season, ["bob", "cid"], 2))


class JoinedTest(unittest.TestCase):
    def test_worths(self):
        for season, liars, budget, stake in seasons(170, 40):
            draw, wish = joined(season=season)
            self.assertTrue(all(isinstance(number, Ratio) for number in wish.values()))
            self.assertEqual(sorted(wish), draw.ends())
            known = [person for person in liars if person in draw.people()]
            self.assertEqual(worth_within(draw, known, wish, budget, stake=stake), season_worth(season, liars, budget, stake=stake))
            self.assertEqual(worth(draw, known, wish, stake=stake), season_worth(season, liars, 30, stake=stake))

    def test_ends(self):
        for season, _, _, _ in seasons(171, 30):
            draw, wish = joined(season)
            self.assertEqual(len(draw), len(season[0][0]) * len(joined(season[1:])[0]) if season[1:] else len(draw))
            found = {}
            for path in draw.paths():
                names, at = (), 0
                for single, _ in season:
                    while not isinstance(single, End):
                        single, at = single.at((path[at],)), at + 1
                    names += (single.name,)
                self.assertEqual(at, len(path))
                found.setdefault(names, set()).add(draw.at(path).name)
            self.assertEqual([len(names) for names in found.values()], [1] * len(found))
            labels = [found[names].pop() for names in sorted(found)]
            self.assertEqual(labels, list("abcdefghijklmnopqrstuvwxyz")[:len(labels)] if len(labels) < 27 else labels)
            for names, label in zip(sorted(found), labels):
                self.assertEqual(wish[label], total([one[name] for (_, one), name in zip(season, names)]))

    def test_many_names(self):
        four = read_draw("open(ann 1/4 1/4 1/4 1/4 *0; a, b, c, d)")
        one = {"a": 0, "b": 1, "c": 2, "d": 3}
        draw, wish = joined([(four, one)] * 4)
        letters = "abcdefghijklmnopqrstuvwxyz"
        names = list(letters) + [first + second for first in letters for second in letters]
        self.assertEqual((len(draw), draw.ends()), (256, sorted(names[:256])))
        for at, name in enumerate(names[:256]):
            row = [at // 64, at // 16 % 4, at // 4 % 4, at % 4]
            self.assertEqual((draw.at(tuple((number,) for number in row)).name, wish[name]), (name, sum(row)))

    def test_as_many_paths_as_can_be(self):
        four = read_draw("sealed(ann 1/4 1/4 1/4 1/4 *0, bob 1/2 1/2 *0; a, b, a, b, a, a, b, b)")
        eight = [(four, {"a": 0, "b": 1})]
        self.assertEqual((len(joined(eight * 4)[0]), joined(eight * 4)[0].depth()), (4096, 4))
        for season, count in ((eight * 3 + [(Round("open", [("ann", FAIR, 0)], [four, End("a")]), {"a": 1, "b": 2})], 512 * 9),):
            with self.assertRaises(TooMany) as caught:
                joined(season)
            self.assertEqual(caught.exception.count, count)
        large = four
        for _ in range(6):
            large = replaced(large, "a", large)
        with self.assertRaises(TooMany) as caught:
            joined([(large, {"a": 1, "b": 2}), (End("no"), {"no": 0})])
        self.assertTrue(caught.exception.count > 2 ** 64)

    def test_end_alone(self):
        draw, wish = joined([(End("no"), {"no": Ratio(1, 3)}), (End("yes"), {"yes": 2})])
        self.assertEqual((draw, wish), (End("a"), {"a": Ratio(7, 3)}))


class SplitTest(unittest.TestCase):
    def test_all_budgets(self):
        for season, liars, budget, stake in seasons(172, 50):
            best = None
            for budgets in all_splits(min(budget, 4), len(season)):
                worths = [worth_within(draw, [person for person in liars if person in draw.people()], wish, part, stake=stake)
                          for (draw, wish), part in zip(season, budgets)]
                if best is None or best[1] < fraction(total(worths)):
                    best = (budgets, fraction(total(worths)))
            told = split(season=season, liars=liars, budget=min(budget, 4), stake=stake)
            self.assertEqual((told[0], fraction(told[1])), best)
            self.assertTrue(isinstance(told, tuple) and isinstance(told[0], tuple) and isinstance(told[1], Ratio))
            if all(here.kind != "last" for draw, _ in season for here in draw_rounds(draw)):
                self.assertFalse(season_worth(season, liars, min(budget, 4), stake=stake).below(told[1]))

    def test_dealt_out_in_several_ways_alike(self):
        both = [(unlike(), WIN), (unlike(), WIN)]
        self.assertEqual([split(both, ["bob"], budget)[0] for budget in range(4)], [(0, 0), (0, 1), (1, 1), (1, 2)])
        self.assertEqual(split(both * 2, ["bob"], 30)[0], (1, 1, 1, 27))
        self.assertEqual(split([(End("no"), {"no": 1})] * 4, [], 30), ((0, 0, 0, 30), Ratio(4)))

    def test_season_is_not_less_without_last_rounds(self):
        for season, liars, budget, stake in seasons(173, 20):
            plain = [(of_kind(draw, "held"), wish) for draw, wish in season]
            self.assertFalse(season_worth(plain, liars, budget, stake=stake).below(split(plain, liars, budget, stake=stake)[1]))


def all_splits(budget, many):
    if many == 1:
        return [(budget,)]
    return [(part,) + rest for part in range(budget + 1) for rest in all_splits(budget - part, many - 1)]


def draw_rounds(draw):
    return [] if isinstance(draw, End) else [draw] + [here for further in draw.draws for here in draw_rounds(further)]


class StatementsTest(unittest.TestCase):
    def test_tables_of_the_draw_put_together(self):
        for season, liars, budget, stake in seasons(174, 10, most=2):
            draw, wish = joined(season)
            known = [person for person in liars if person in draw.people()]
            told = table_within(draw, known, wish, budget, stake=stake)
            self.assertEqual(told[((), (), budget)], season_worth(season, liars, budget, stake=stake))

    def test_plans_of_one_draw(self):
        for season, liars, budget, stake in seasons(175, 15, most=1):
            plan = season_plans(season, liars, budget, stake=stake)[(0, (), budget)]
            self.assertLessEqual(most_holds(season[0][0], liars, plan), budget)


class ErrorsTest(unittest.TestCase):
    def asks(self):
        return [season_worth, season_plans, split, lambda season, liars, budget, **more: season_score(season, liars, budget, None, **more)]

    def test_seasons(self):
        good = (unlike(), WIN)
        wrong = [[], (), [good] * 5, [list(good)], [(unlike(),)], [good + (1,)], [good, None], [(WIN, unlike())], [("no", {"no": 1})],
                 [(None, {})], [good, (unlike(), {"no": 1})], good, [unlike()], {0: good}, [[good]], [(unlike().text(), WIN)]]
        wrong += [[good, (unlike(), value)] for value in wrong_wishes(["no", "yes"])]
        for value in wrong + wrong_values():
            for ask in self.asks():
                assert_raises(self, BadSeason, "given", value, lambda: ask(value, None, None, stake=None))
            assert_raises(self, BadSeason, "given", value, lambda: joined(value))

    def test_others(self):
        season = [(read_draw(MIXED_TEXT), WIN), (read_draw(LAST_TEXT), WIN)]
        for value in wrong_lists(["ann", "bob", "cid"]):
            for ask in self.asks():
                assert_raises(self, BadLiars, "given", value, lambda: ask(season, value, None, stake=None))
        for value in wrong_budgets():
            for ask in self.asks():
                assert_raises(self, BadBudget, "given", value, lambda: ask(season, ["ann"], value, stake=None))
        for value in wrong_amounts():
            for ask in (season_worth, season_plans, split):
                assert_raises(self, BadStake, "given", value, lambda: ask(season, ["ann"], 2, stake=value))
            told = season_plans(season, ["ann"], 2)
            assert_raises(self, BadStake, "given", value, lambda: season_score(season, ["ann"], 2, told, stake=value))

    def test_arguments_stay_as_they_were(self):
        wish = dict(WIN)
        season = [(unlike(), wish), (read_draw(TURNS_TEXT), wish)]
        told = season_plans(season, ["bob"], 1)
        kept = dict(told)
        self.assertEqual(season_score(season, ["bob"], 1, told), season_worth(season, ["bob"], 1))
        self.assertEqual((told, wish, len(season)), (kept, WIN, 2))
        told.clear()
        self.assertEqual(season_plans(season, ["bob"], 1), kept)


if __name__ == "__main__":
    unittest.main()
