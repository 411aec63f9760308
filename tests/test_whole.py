"""The whole program: the same draws with other names, with their givers in another order, or read again from their texts."""

import inspect
import random
import unittest
from importlib import import_module

from jointdraws import errors
from jointdraws.budgets import (
    is_table_within, least_budget, most_holds, plan_within, table_within, worth_within, worths_within)
from jointdraws.built import lean, of_kind, repeated, replaced, with_ends, with_people
from jointdraws.cards import card, is_as_good, is_better
from jointdraws.corners import (
    alike_for_wishes, barring_wish, bounds_of, can_reach, corners, mix, never_worse, parting_wish)
from jointdraws.design import best_stand_ins, cheapest, is_safe, weak_spot
from jointdraws.draws import Draw, End, Round, read_draw
from jointdraws.duels import duel, duel_table, guards, is_duel_table
from jointdraws.errors import DrawError
from jointdraws.force import (
    alike_in_force, cheapest_force, forces, forcing_sets, is_strategy, parting_force, strategy)
from jointdraws.guards import is_guard, kept_to, made_sure
from jointdraws.habits import (
    better_number, breakers, broken, got, habit_shares, is_settled, settled_bounds, settled_habits)
from jointdraws.honest import (
    chance, honest_mean, honest_shares, is_even, is_turns, numbers_back, numbers_given, told_back)
from jointdraws.live import Live
from jointdraws.matters import (
    cheapest_set, idle_people, least_sets, matters, needed_people, parts_of_gain, who_matters)
from jointdraws.mixtures import mixture, mixture_score, worth_in_mean
from jointdraws.plans import count_plans, held_mean, is_plan, plan_shares, plans, runs, score
from jointdraws.ratios import Ratio
from jointdraws.seasons import joined, season_plans, season_score, season_worth, split
from jointdraws.stakes import higher_stake, least_stake, paying_plan, piece_plans, pieces, safe_stake, same_worths
from jointdraws.worths import best_plan, gain, greatest_worth, is_table, table, worth, worths
from tests.brute import random_draw
from tests.samples import MIXED_TEXT, MORE_TEXT, TURNS_TEXT, UNLIKE_TEXT

PEOPLE = ["ann", "bob", "cid", "dan"]
ENDS = ["maybe", "no", "yes"]
FILES = ["honest", "plans", "worths", "stakes", "corners", "force", "built", "matters", "cards", "design", "duels", "guards",
         "habits", "budgets", "mixtures", "seasons"]
HALF = Ratio(1, 2)


def plain(value, names):
    """An answer as plain values, with other names in the place of some."""
    if isinstance(value, Ratio):
        return ("ratio", value.text())
    if isinstance(value, Draw):
        return ("draw", plain(value.name, names)) if isinstance(value, End) else (
            "draw", value.kind, plain(value.givers, names), plain(value.draws, names))
    if isinstance(value, str):
        return names.get(value, value)
    if isinstance(value, dict):
        return {"dict": sorted([(repr(plain(key, names)), repr(plain(value[key], names))) for key in value])}
    if isinstance(value, (list, tuple)):
        return [isinstance(value, tuple)] + [plain(item, names) for item in value]
    return value


def asked(question, *given):
    """The answer, or the error with what it keeps."""
    try:
        return question(*given)
    except DrawError as error:
        return (type(error).__name__, list(vars(error).values()))


class Case:
    """A draw with some people as liars, and all that is asked for; names may be other ones."""

    def __init__(self, draw, liars, wish, name=lambda word: word):
        self.draw, self.liars, self.wish = draw, liars, wish
        self.others = [person for person in draw.people() if person not in liars]
        self.first = draw.ends()[0]
        self.prices = {person: at + 1 for at, person in enumerate(draw.people())}
        self.shares = {end: Ratio(1, len(draw.ends())) for end in draw.ends()}
        self.wishes = {person: wish for person in liars}
        self.season = [(draw, wish), (draw, {end: 1 - wish[end] for end in wish})]

    def values(self):
        """All questions whose answers do not hang on the order of the givers, as tuples (function, arguments)."""
        draw, liars, others, wish = self.draw, self.liars, self.others, self.wish
        bound = Ratio(1, 3)
        asks = [
            (honest_shares, draw), (honest_mean, draw, wish), (is_turns, draw), (is_even, draw), (numbers_given, draw), (count_plans, draw, liars),
            (worth, draw, liars, wish), (gain, draw, liars, wish), (worths, draw, wish), (greatest_worth, draw, wish, min(1, len(draw.people()))),
            (pieces, draw, liars, wish), (least_stake, draw, liars, wish), (safe_stake, draw, min(1, len(draw.people()))),
            (same_worths, draw, of_kind(draw, "open"), liars, wish), (higher_stake, draw, of_kind(draw, "held"), liars, wish),
            (can_reach, draw, liars, self.shares), (alike_for_wishes, draw, of_kind(draw, "sealed"), liars),
            (never_worse, draw, of_kind(draw, "sealed"), liars), (bounds_of, draw, liars, [self.first]),
            (forces, draw, liars, [self.first]), (forcing_sets, draw, [self.first]), (cheapest_force, draw, [self.first], self.prices),
            (alike_in_force, draw, draw), (parting_force, draw, draw), (who_matters, draw), (who_matters, draw, liars),
            (least_sets, draw, wish, bound), (needed_people, draw, wish, bound), (idle_people, draw, wish, bound),
            (cheapest_set, draw, wish, bound, self.prices), (parts_of_gain, draw, wish), (card, draw, draw.people()),
            (is_as_good, draw, draw, draw.people()), (is_better, draw, draw, draw.people()),
            (is_safe, draw, min(1, len(draw.people())), bound), (weak_spot, draw, min(1, len(draw.people())), bound),
            (duel, draw, liars, others, wish), (duel, draw, others, sorted(liars)[:1], wish), (settled_bounds, draw, self.wishes),
            (worth_within, draw, liars, wish, 1), (worths_within, draw, liars, wish), (least_budget, draw, liars, wish, bound),
            (worth_in_mean, draw, liars, wish, bound), (season_worth, self.season, liars, 1), (split, self.season, liars, 2)]
        return asks + [(matters, draw, person) for person in draw.people()[:1]]

    def all(self):
        """All questions, as tuples (function, arguments)."""
        draw, liars, others, wish = self.draw, self.liars, self.others, self.wish
        plan = best_plan(draw, liars, wish)
        mine, yours = guards(draw, liars, others, wish)
        renamed = {person: person + "x" for person in draw.people()}
        asks = [
            (chance, draw, draw.paths()[-1]), (told_back, draw, self.first), (is_plan, draw, liars, plan), (runs, draw, liars, plan),
            (plan_shares, draw, liars, plan), (held_mean, draw, liars, plan), (score, draw, liars, plan, wish), (best_plan, draw, liars, wish),
            (table, draw, liars, wish), (is_table, draw, liars, wish, table(draw, liars, wish)), (piece_plans, draw, liars, wish),
            (paying_plan, draw, liars, wish), (corners, draw, liars), (mix, draw, liars, self.shares), (barring_wish, draw, liars, self.shares),
            (parting_wish, draw, of_kind(draw, "held"), liars), (strategy, draw, liars, [self.first]), (is_strategy, draw, liars, [self.first], {}),
            (replaced, draw, self.first, draw), (with_people, draw, renamed), (with_ends, draw, {end: "x" for end in draw.ends()}),
            (repeated, draw, 2), (of_kind, draw, "last"), (lean, draw), (duel_table, draw, liars, others, wish), (guards, draw, liars, others, wish),
            (is_duel_table, draw, liars, others, wish, duel_table(draw, liars, others, wish)), (is_guard, draw, liars, others, mine),
            (made_sure, draw, liars, others, wish, mine), (kept_to, draw, liars, others, wish, yours), (most_holds, draw, liars, plan),
            (plan_within, draw, liars, wish, 1), (table_within, draw, liars, wish, 1),
            (is_table_within, draw, liars, wish, 1, table_within(draw, liars, wish, 1)), (mixture, draw, liars, wish, HALF),
            (mixture_score, draw, liars, [(1, plan)], wish), (season_plans, self.season, liars, 1), (joined, self.season),
            (season_score, self.season, liars, 1, season_plans(self.season, liars, 1)), (settled_habits, draw, self.wishes)]
        if len(draw) <= 8:
            asks += [(cheapest, draw, {"open": 1, "held": 2}, min(1, len(draw.people())), HALF), (best_stand_ins, draw, 0)]
        if isinstance(draw, Round):
            asks.append((numbers_back, draw, draw.givers[0][0], self.first))
        if is_turns(draw):
            for habit in asked(settled_habits, draw, self.wishes)[:1]:
                asks += [(question, draw, self.wishes, habit) for question in (habit_shares, got, is_settled, better_number, breakers)]
                asks.append((broken, draw, self.wishes, habit, liars))
        return self.values() + asks


def some_draws(seed, many):
    source = random.Random(seed)
    draws = [read_draw(text) for text in (UNLIKE_TEXT, MORE_TEXT, MIXED_TEXT, TURNS_TEXT, "no")]
    draws += [random_draw(source, 2, ENDS, PEOPLE, most=2) for _ in range(many)]
    draws += [random_draw(source, 3, ENDS, PEOPLE[:3], kinds=["open"], most=1) for _ in range(many // 2)]
    found = []
    for draw in draws:
        people = draw.people()
        liars = sorted(source.sample(people, min(len(people), source.randrange(3))))
        if draw.people() and len(draw) <= 40:
            found.append((draw, liars, {end: Ratio(source.randrange(-3, 6), source.randrange(1, 4)) for end in draw.ends()}))
    return found


def reordered(draw, source):
    """The same draw with the givers of each round in another order."""
    if isinstance(draw, End):
        return draw
    order = list(range(len(draw.givers)))
    source.shuffle(order)
    further = {tuple(row[at] for at in order): reordered(draw.at((row,)), source) for row in draw.rows()}
    return Round(draw.kind, [draw.givers[at] for at in order], [further[row] for row in sorted(further)])


class SameAnswersTest(unittest.TestCase):
    def test_other_names(self):
        # The new names are in the order of the old ones, so that all that is first stays first.
        people = {"ann": "bea", "bob": "dora", "cid": "gus", "dan": "zoe"}
        ends = {"maybe": "aa", "no": "b", "yes": "zz"}
        for draw, liars, wish in some_draws(1, 14):
            named = with_ends(with_people(draw, {one: people[one] for one in draw.people()}), {one: ends[one] for one in draw.ends()})
            mine = Case(draw, liars, wish)
            yours = Case(named, [people[one] for one in liars], {ends[one]: wish[one] for one in wish})
            renamed = {**people, **ends, **{one + "x": people[one] + "x" for one in people}}
            for (question, *given), (_, *others) in zip(mine.all(), yours.all()):
                # Cards are told of draws with the ends no and yes only.
                if question not in (card, is_as_good, is_better):
                    self.assertEqual(plain(asked(question, *given), renamed), plain(asked(question, *others), {}), question.__name__)

    def test_names_in_another_order(self):
        people = {"ann": "zed", "bob": "cy", "cid": "al", "dan": "mo"}
        for draw, liars, wish in some_draws(2, 14):
            named = with_people(draw, {one: people[one] for one in draw.people()})
            left = [people[one] for one in liars]
            self.assertEqual(worth(named, left, wish, stake=HALF), worth(draw, liars, wish, stake=HALF))
            self.assertEqual(pieces(named, left, wish), pieces(draw, liars, wish))
            self.assertEqual([shares for shares, _ in corners(named, left)], [shares for shares, _ in corners(draw, liars)])
            self.assertEqual(parts_of_gain(named, wish), {people[one]: part for one, part in parts_of_gain(draw, wish).items()})
            self.assertEqual(worths_within(named, left, wish), worths_within(draw, liars, wish))
            rest = [one for one in draw.people() if one not in liars]
            self.assertEqual(duel(named, left, [people[one] for one in rest], wish, stake=1), duel(draw, liars, rest, wish, stake=1))
            self.assertEqual(is_safe(named, 1, HALF), is_safe(draw, 1, HALF))
            self.assertEqual(season_worth([(named, wish)] * 2, left, 1), season_worth([(draw, wish)] * 2, liars, 1))

    def test_givers_in_another_order(self):
        source = random.Random(3)
        for draw, liars, wish in some_draws(3, 14):
            other = reordered(draw, source)
            for (question, *given), (_, *others) in zip(Case(draw, liars, wish).values(), Case(other, liars, wish).values()):
                self.assertEqual(plain(asked(question, *given), {}), plain(asked(question, *others), {}), question.__name__)

    def test_read_again_and_asked_again(self):
        for draw, liars, wish in some_draws(4, 10):
            text = draw.text()
            case, again = Case(draw, liars, wish), Case(read_draw(text), liars[::-1], dict(wish))
            first = [plain(asked(*ask), {}) for ask in case.all()]
            for ask, answer, other in zip(case.all(), first, again.all()):
                self.assertEqual(plain(asked(*ask), {}), answer, ask[0].__name__)
                self.assertEqual(plain(asked(*other), {}), answer, ask[0].__name__)
            self.assertEqual(draw.text(), text)

    def test_lists_as_tuples(self):
        for draw, liars, wish in some_draws(5, 8):
            mine, yours = Case(draw, liars, wish), Case(draw, tuple(liars), wish)
            yours.season = tuple(yours.season)
            for (question, *given), (_, *others) in zip(mine.all(), yours.all()):
                self.assertEqual(plain(asked(question, *given), {}), plain(asked(question, *others), {}), question.__name__)

    def test_arguments_by_name(self):
        met = set()
        for draw, liars, wish in some_draws(6, 6):
            for question, *given in Case(draw, liars, wish).all():
                names = [name for name, each in inspect.signature(question).parameters.items() if each.kind == each.POSITIONAL_OR_KEYWORD]
                by_name = dict(zip(names, given))
                self.assertEqual(plain(asked(lambda: question(**by_name)), {}), plain(asked(question, *given), {}), question.__name__)
                met.add(question)
            for plan in list(plans(draw=draw, liars=liars))[:3] if count_plans(draw, liars) <= 2000 else []:
                self.assertIs(is_plan(draw=draw, liars=liars, value=plan), True)
        self.assertEqual(sorted(question.__name__ for question in met), sorted(all_functions() - {"plans"}))


def all_functions():
    """The names of all functions of the interface for a draw of one's own."""
    found = set()
    for word in FILES:
        module = import_module("jointdraws." + word)
        found |= {name for name, made in vars(module).items() if inspect.isfunction(made) and made.__module__ == module.__name__}
    return {name for name in found if not name.startswith("_")} - {
        "family_draw", "best_draws", "draw_within", "least_bias", "is_wish", "best_lines", "gains_for"}


class KeptTest(unittest.TestCase):
    def test_what_is_returned_is_new(self):
        for draw, liars, wish in some_draws(7, 6):
            case = Case(draw, liars, wish)
            for question, *given in case.all():
                answer = asked(question, *given)
                told = plain(answer, {})
                if isinstance(answer, dict):
                    answer.clear()
                elif isinstance(answer, list):
                    answer.append("more")
                    answer[0] = None
                elif isinstance(answer, tuple):
                    for part in answer:
                        if isinstance(part, dict):
                            part.clear()
                self.assertEqual(plain(asked(question, *given), {}), told, question.__name__)

    def test_what_was_passed_stays(self):
        for draw, liars, wish in some_draws(8, 6):
            case = Case(draw, list(liars), dict(wish))
            for question, *given in case.all():
                before = plain(given, {})
                asked(question, *given)
                self.assertEqual(plain(given, {}), before, question.__name__)

    def test_lists_that_draws_were_made_of(self):
        shares, draws = [HALF, HALF], [End("no"), End("yes")]
        givers = [("ann", shares, 0)]
        draw = Round("held", givers, draws)
        live = Live(draw)
        shares[0], draws[0] = Ratio(1), End("maybe")
        givers.append(("bob", shares, 1))
        self.assertEqual((draw.text(), live.now.text()), ("held(ann 1/2 1/2 *0; no, yes)",) * 2)

    def test_errors(self):
        for name, made in vars(errors).items():
            if inspect.isclass(made) and issubclass(made, DrawError) and made is not DrawError:
                self.assertEqual(made.__bases__, (DrawError,), name)


if __name__ == "__main__":
    unittest.main()
