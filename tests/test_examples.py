"""The examples of the interface, as they stand there, and its names and arguments."""

import inspect
import unittest

from jointdraws import built, cards, draws, force, honest, ratios, stakes
from jointdraws import corners as corners_file
from jointdraws import matters as matters_file
from jointdraws import plans as plans_file
from jointdraws import worths as worths_file
from jointdraws.built import lean, of_kind, repeated, replaced, with_ends, with_people
from jointdraws.cards import best_draws, card, draw_within, is_as_good, is_better, least_bias
from jointdraws.corners import (
    alike_for_wishes, barring_wish, bounds_of, can_reach, corners, mix, never_worse, parting_wish)
from jointdraws.draws import End, Round, read_draw
from jointdraws.errors import BadName, BadText, Twice
from jointdraws.force import (
    alike_in_force, cheapest_force, family_draw, forces, forcing_sets, is_strategy, parting_force, strategy)
from jointdraws.honest import (
    chance, honest_mean, honest_shares, is_even, is_turns, numbers_back, numbers_given, told_back)
from jointdraws.matters import (
    cheapest_set, idle_people, least_sets, matters, needed_people, parts_of_gain, who_matters)
from jointdraws.plans import count_plans, held_mean, is_plan, plan_shares, plans, runs, score
from jointdraws.ratios import Ratio, as_ratio, greatest, read_ratio, total
from jointdraws.stakes import higher_stake, least_stake, paying_plan, piece_plans, pieces, safe_stake, same_worths
from jointdraws.worths import best_plan, gain, greatest_worth, is_table, table, worth, worths
from tests.samples import assert_raises


class ExamplesTest(unittest.TestCase):
    def setUp(self):
        fair = [Ratio(1, 2), Ratio(1, 2)]
        self.unlike = Round("held", [("ann", fair, 0), ("bob", fair, 0)], [End("no"), End("yes"), End("yes"), End("no")])
        self.more = read_draw("open(cid 1/3 2/3 *1; yes, held(ann 1/2 1/2 *0; no, yes))")
        self.sly = (((1,), (), ()), ((1,), ("bob",), ()))
        self.win = {"no": 0, "yes": 1}
        self.votes = read_draw("held(ann 1/2 1/2 *0, bob 1/2 1/2 *0, cid 1/2 1/2 *0; no, no, no, yes, no, yes, yes, yes)")
        self.unseen = read_draw("sealed(ann 1/2 1/2 *0, bob 1/2 1/2 *0; no, yes, yes, no)")

    def test_ratios(self):
        half = Ratio(2, 4)
        self.assertEqual(
            [half.text(), (1 - half * 3).text(), str(half.over(Ratio(-1, 3))), half + half == 1, half.below(1), (-half).top],
            ['1/2', '-1/2', '-3/2', True, True, -1])
        self.assertEqual(
            [total([half, 2, read_ratio("-3/7")]).text(), greatest([0, half]).text(), as_ratio(5).bottom],
            ['29/14', '1/2', 1])
        assert_raises(self, BadText, "given", "2/4", lambda: read_ratio("2/4"))

    def test_draws(self):
        unlike, more = self.unlike, self.more
        self.assertEqual(
            [unlike.text(), unlike.ends(), unlike.people(), unlike.rows(), len(unlike), unlike.depth()],
            ['held(ann 1/2 1/2 *0, bob 1/2 1/2 *0; no, yes, yes, no)', ['no', 'yes'], ['ann', 'bob'],
             [(0, 0), (0, 1), (1, 0), (1, 1)], 4, 1])
        self.assertEqual(
            [more.paths(), more.at(((1,), (0,))).name, more.givers[0][1][0] == Ratio(1, 3), more.draws[0] == End("yes")],
            [[((0,),), ((1,), (0,)), ((1,), (1,))], 'no', True, True])
        assert_raises(self, BadName, "given", "Yes", lambda: End("Yes"))

    def test_text_of_the_points(self):
        text = "held(ann 1/2 1/2 *0, bob 1/3 2/3 *1; yes, no, no, open(cid 1/2 1/2 *0; yes, no))"
        self.assertEqual([len(read_draw(text)), read_draw(text).text()], [5, text])

    def test_honest(self):
        unlike, more = self.unlike, self.more
        self.assertEqual(
            [chance(more, ((1,), (0,))).text(), honest_shares(more)["yes"].text(), honest_mean(more, {"no": 0, "yes": 3}).text()],
            ['1/3', '2/3', '2'])
        self.assertEqual([(path, part.text()) for path, part in told_back(more, "yes")],
                         [(((0,),), '1/2'), (((1,), (1,)), '1/2')])
        self.assertEqual(
            [[part.text() for part in numbers_back(more, "cid", "yes")], is_turns(more), is_even(unlike), numbers_given(more)],
            [['1/2', '1/2'], False, True, {'ann': 1, 'cid': 1}])

    def test_plans(self):
        unlike, more, sly = self.unlike, self.more, self.sly
        self.assertEqual([count_plans(unlike, ["bob"]), count_plans(unlike, []), count_plans(more, ["cid", "ann"])], [8, 1, 5])
        self.assertEqual(
            [is_plan(unlike, ["bob"], sly), list(plans(unlike, ["bob"]))[5] == sly, plan_shares(unlike, ["bob"], sly)["yes"] == 1],
            [True, True, True])
        self.assertEqual([(path, held, part.text()) for path, held, part in runs(unlike, ["bob"], sly)],
                         [(((0, 1),), 0, '1/2'), (((1, 0),), 1, '1/2')])
        self.assertEqual(
            [held_mean(unlike, ["bob"], sly).text(), score(unlike, ["bob"], sly, {"no": 0, "yes": 1}, stake=Ratio(1, 3)).text()],
            ['1/2', '5/6'])

    def test_worths(self):
        unlike, win = self.unlike, self.win
        self.assertEqual(
            [worth(unlike, ["bob"], win).text(), worth(unlike, ["bob"], win, stake=2).text(),
             gain(unlike, ["bob"], win, stake=Ratio(1, 3)).text()],
            ['1', '1/2', '1/3'])
        self.assertEqual(
            [best_plan(unlike, ["bob"], win) == self.sly, is_table(unlike, ["bob"], win, table(unlike, ["bob"], win)),
             len(table(unlike, ["bob"], win))],
            [True, True, 5])
        self.assertEqual([greatest_worth(unlike, win, 1, stake=1)[1], len(worths(unlike, win)), worth(unlike, [], win).text()],
                         [(), 4, '1/2'])

    def test_stakes(self):
        unlike, votes, unseen, win = self.unlike, self.votes, self.unseen, self.win
        self.assertEqual([tuple([part.text() for part in row]) for row in pieces(unlike, ["bob"], win)],
                         [('0', '1', '-1/2'), ('1', '1/2', '0')])
        self.assertEqual(
            [piece_plans(unlike, ["bob"], win)[0] == self.sly, least_stake(unlike, ["bob"], win).text(),
             paying_plan(unlike, ["bob"], win)],
            [True, '1', None])
        self.assertEqual(
            [least_stake(unlike, ["bob"], win, limit=Ratio(1, 4)).text(), safe_stake(unlike, 1)[0].text(), safe_stake(unlike, 1)[1:]],
            ['1/2', '1', (('ann',), 'no')])
        self.assertEqual(
            [len(pieces(votes, ["ann"], win)), least_stake(votes, ["ann"], win),
             paying_plan(votes, ["ann"], win) == (((1,), (), ()),) * 4],
            [1, None, True])
        self.assertEqual(
            [same_worths(unlike, unseen, ["bob"], win), higher_stake(unlike, unseen, ["bob"], win).below(1),
             higher_stake(unseen, unlike, ["bob"], win)],
            [False, True, None])

    def test_corners(self):
        unlike, votes, unseen = self.unlike, self.votes, self.unseen
        self.assertEqual([tuple([part.text() for part in shares]) for shares, plan in corners(unlike, ["bob"])],
                         [('0', '1'), ('1', '0')])
        self.assertEqual(
            [corners(unlike, ["bob"])[0][1] == self.sly, [part.text() for part in corners(unseen, ["bob"])[0][0]],
             len(corners(unlike, []))],
            [True, ['1/2', '1/2'], 1])
        mostly = {"no": Ratio(1, 4), "yes": Ratio(3, 4)}
        mixed = mix(unlike, ["bob"], mostly)
        self.assertEqual(
            [can_reach(unlike, ["bob"], mostly),
             total([part * plan_shares(unlike, ["bob"], plan)["yes"] for part, plan in mixed]).text(), len(mixed),
             mix(unseen, ["bob"], mostly)],
            [True, '3/4', 2, None])
        wish = barring_wish(unseen, ["bob"], mostly)
        self.assertEqual(
            [worth(unseen, ["bob"], wish).below(total([mostly[name] * wish[name] for name in wish])),
             barring_wish(unlike, ["bob"], mostly)],
            [True, None])
        self.assertEqual(
            [alike_for_wishes(unlike, unseen, ["bob"]), never_worse(unlike, unseen, ["bob"]), parting_wish(unlike, unseen, ["bob"])],
            [False, True, None])
        self.assertEqual(
            [[part.text() for part in bounds_of(votes, ["ann", "cid"], ["yes"])],
             [part.text() for part in bounds_of(votes, ["ann"], ["yes"])]],
            [['0', '1'], ['1/4', '3/4']])

    def test_force(self):
        turns = read_draw("open(ann 1/2 1/2 *0; no, open(bob 1/2 1/2 *0; no, yes))")
        self.assertEqual(
            [forces(turns, ["ann", "bob"], ["yes"]), forces(turns, ["ann"], ["yes"]), forces(turns, ["ann"], ["no"]),
             forces(turns, [], ["no", "yes"])],
            [True, False, True, True])
        self.assertEqual(
            [strategy(turns, ["bob"], ["no"]), strategy(turns, ["bob"], ["yes"]), is_strategy(turns, ["ann"], ["no"], {(): 0}),
             is_strategy(turns, ["ann"], ["no"], {(): 1})],
            [{((1,),): 0}, None, True, False])
        self.assertEqual(
            [forcing_sets(turns, ["yes"]), forcing_sets(turns, ["no"]),
             cheapest_force(turns, ["no"], {"ann": 3, "bob": Ratio(5, 2)})[1]],
            [[('ann', 'bob')], [('ann',), ('bob',)], ('bob',)])
        pairs = family_draw(["ann", "bob", "cid"], [("ann", "bob"), ("ann", "cid"), ("bob", "cid")])
        self.assertEqual(
            [forcing_sets(pairs, ["yes"]), forcing_sets(pairs, ["no"]) == forcing_sets(pairs, ["yes"]), pairs.depth() <= 3,
             family_draw(["ann"], []).text()],
            [[('ann', 'bob'), ('ann', 'cid'), ('bob', 'cid')], True, True, 'no'])
        people, names = parting_force(turns, pairs)
        known = [person for person in people if person in turns.people()]
        self.assertEqual(
            [alike_in_force(turns, family_draw(["ann", "bob"], [["bob", "ann"]])), parting_force(turns, turns),
             forces(turns, known, names) == forces(pairs, people, names)],
            [True, None, False])

    def test_built(self):
        unlike, more = self.unlike, self.more
        self.assertEqual([replaced(unlike, "no", more).text() == unlike.text().replace("no", more.text()), of_kind(unlike, "sealed").kind],
                         [True, 'sealed'])
        self.assertEqual(
            [len(repeated(unlike, 3)), repeated(unlike, 3).at(((0, 0), (0, 1), (0, 1))).name,
             with_ends(unlike, {"no": "x", "yes": "x"}).ends()],
            [64, 'yes', ['x']])
        self.assertEqual(
            [lean(with_ends(unlike, {"no": "x", "yes": "x"})).text(), with_people(more, {"ann": "eve", "cid": "eve"}).people()],
            ['x', ['eve']])
        with self.assertRaises(Twice) as caught:
            with_people(unlike, {"ann": "eve", "bob": "eve"})
        self.assertEqual(caught.exception.person, 'eve')

    def test_matters(self):
        unlike, votes, unseen, win = self.unlike, self.votes, self.unseen, self.win
        self.assertEqual(
            [who_matters(unlike), who_matters(unseen), who_matters(unlike, ["ann"]), who_matters(unseen, ["ann"]), matters(votes, "cid")],
            [['ann', 'bob'], [], [], ['bob'], True])
        self.assertEqual(
            [least_sets(unlike, win, 1), least_sets(unseen, win, 1), least_sets(votes, win, Ratio(3, 4)), least_sets(unlike, win, 2)],
            [[('ann',), ('bob',)], [('ann', 'bob')], [('ann',), ('bob',), ('cid',)], []])
        self.assertEqual(
            [needed_people(unlike, win, 1), needed_people(unseen, win, 1), idle_people(unseen, win, 0), idle_people(unlike, win, 2)],
            [[], ['ann', 'bob'], ['ann', 'bob'], None])
        price, liars = cheapest_set(votes, win, 1, {"ann": 2, "bob": Ratio(1, 2), "cid": 1})
        self.assertEqual(
            [price.text(), liars, [part.text() for part in parts_of_gain(unlike, win).values()], sorted(parts_of_gain(votes, win))],
            ['3/2', ('bob', 'cid'), ['1/4', '1/4'], ['ann', 'bob', 'cid']])

    def test_cards(self):
        three = ["ann", "bob", "cid"]
        baton = read_draw("open(ann 1/2 1/2 *0; open(bob 1/2 1/2 *0; no, yes), open(cid 1/2 1/2 *0; no, yes))")
        told = card(baton, three)
        self.assertEqual(
            [len(told), [part.text() for part in told[("ann",)]], [part.text() for part in told[("bob",)]], told[("bob", "cid")] == (1, 1)],
            [8, ['1/2', '1/2'], ['3/4', '3/4'], True])
        majority = read_draw("open(ann 1/2 1/2 *0; open(bob 1/2 1/2 *0; no, open(cid 1/2 1/2 *0; no, yes)), "
                             "open(bob 1/2 1/2 *0; open(cid 1/2 1/2 *0; no, yes), yes))")
        self.assertEqual(
            [is_better(baton, majority, three), is_as_good(baton, baton, three), is_better(baton, baton, three),
             is_as_good(majority, baton, three)],
            [True, True, False, False])
        self.assertEqual(
            [len(best_draws(["ann"], 1)), best_draws(["ann"], 1)[0].text(), least_bias(three, 2, 1)[0].text(),
             least_bias(three, 1, 0)[0].text()],
            [3, 'yes', '3/4', '1/2'])
        bounds = {(person,): (Ratio(3, 4), Ratio(3, 4)) for person in three}
        self.assertEqual(
            [draw_within(three, 1, bounds), card(draw_within(three, 2, bounds), three)[("ann",)][0].below(1),
             draw_within(three, 3, {(): (0, Ratio(1, 2))})],
            [None, True, None])


class InterfaceTest(unittest.TestCase):
    def test_functions(self):
        listed = {
            ratios: {"as_ratio": "(value)", "read_ratio": "(text)", "total": "(numbers)", "greatest": "(numbers)",
                     "least": "(numbers)"},
            draws: {"read_draw": "(text)"},
            honest: {"chance": "(draw, path)", "honest_shares": "(draw)", "honest_mean": "(draw, wish)",
                     "told_back": "(draw, name)", "numbers_back": "(draw, person, name)", "is_turns": "(draw)",
                     "is_even": "(draw)", "numbers_given": "(draw)"},
            plans_file: {"count_plans": "(draw, liars)", "plans": "(draw, liars)", "is_plan": "(draw, liars, value)",
                         "runs": "(draw, liars, plan)", "plan_shares": "(draw, liars, plan)", "held_mean": "(draw, liars, plan)",
                         "score": "(draw, liars, plan, wish, *, stake=0)"},
            worths_file: {"worth": "(draw, liars, wish, *, stake=0)", "gain": "(draw, liars, wish, *, stake=0)",
                          "best_plan": "(draw, liars, wish, *, stake=0)", "table": "(draw, liars, wish, *, stake=0)",
                          "is_table": "(draw, liars, wish, value, *, stake=0)", "worths": "(draw, wish, *, stake=0)",
                          "greatest_worth": "(draw, wish, most, *, stake=0)"},
            stakes: {"pieces": "(draw, liars, wish)", "piece_plans": "(draw, liars, wish)",
                     "least_stake": "(draw, liars, wish, *, limit=0)", "paying_plan": "(draw, liars, wish, *, limit=0)",
                     "safe_stake": "(draw, most, *, limit=0)", "same_worths": "(one, other, liars, wish)",
                     "higher_stake": "(one, other, liars, wish)"},
            corners_file: {"corners": "(draw, liars)", "can_reach": "(draw, liars, shares)", "mix": "(draw, liars, shares)",
                           "barring_wish": "(draw, liars, shares)", "alike_for_wishes": "(one, other, liars)",
                           "never_worse": "(one, other, liars)", "parting_wish": "(one, other, liars)",
                           "bounds_of": "(draw, liars, names)"},
            force: {"forces": "(draw, people, names)", "strategy": "(draw, people, names)",
                    "is_strategy": "(draw, people, names, value)", "forcing_sets": "(draw, names)",
                    "cheapest_force": "(draw, names, prices)", "family_draw": "(people, sets)",
                    "alike_in_force": "(one, other)", "parting_force": "(one, other)"},
            built: {"replaced": "(draw, name, other)", "with_people": "(draw, names)", "with_ends": "(draw, names)",
                    "repeated": "(draw, times)", "of_kind": "(draw, kind)", "lean": "(draw)"},
            matters_file: {"matters": "(draw, person, liars=())", "who_matters": "(draw, liars=())",
                           "least_sets": "(draw, wish, bound, *, stake=0)", "needed_people": "(draw, wish, bound, *, stake=0)",
                           "idle_people": "(draw, wish, bound, *, stake=0)",
                           "cheapest_set": "(draw, wish, bound, prices, *, stake=0)", "parts_of_gain": "(draw, wish, *, stake=0)"},
            cards: {"card": "(draw, people)", "is_as_good": "(one, other, people)", "is_better": "(one, other, people)",
                    "best_draws": "(people, depth)", "draw_within": "(people, depth, bounds)", "least_bias": "(people, depth, most)"},
        }
        for module, functions in listed.items():
            for name, arguments in functions.items():
                made = getattr(module, name)
                self.assertEqual(made.__module__, module.__name__)
                self.assertEqual(str(inspect.signature(made)), arguments, name)

    def test_classes(self):
        listed = {
            ratios.Ratio: {"over": "(self, number)", "below": "(self, number)", "text": "(self)"},
            draws.Draw: {"ends": "(self)", "people": "(self)", "rows": "(self)", "paths": "(self)", "depth": "(self)",
                         "at": "(self, path)", "text": "(self)"},
        }
        for made, methods in listed.items():
            for name, arguments in methods.items():
                self.assertEqual(str(inspect.signature(vars(made)[name])), arguments, name)
        self.assertEqual(str(inspect.signature(ratios.Ratio)), "(top, bottom=1)")
        self.assertEqual(str(inspect.signature(draws.End)), "(name)")
        self.assertEqual(str(inspect.signature(draws.Round)), "(kind, givers, draws)")
        self.assertEqual([draws.End.__bases__, draws.Round.__bases__], [(draws.Draw,), (draws.Draw,)])

    def test_properties_and_operators(self):
        listed = {ratios.Ratio: ["top", "bottom"], draws.End: ["name"], draws.Round: ["kind", "givers", "draws"]}
        for made, names in listed.items():
            for name in names:
                self.assertIsInstance(vars(made)[name], property)
        for name in ["__add__", "__radd__", "__sub__", "__rsub__", "__mul__", "__rmul__", "__neg__", "__eq__", "__str__"]:
            self.assertIn(name, vars(ratios.Ratio))
        for name in ["__eq__", "__len__"]:
            self.assertIn(name, vars(draws.Draw))


if __name__ == "__main__":
    unittest.main()
