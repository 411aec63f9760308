"""Budgets: what liars get if there may be no more than so many holds."""

from jointdraws.acting import Acting
from jointdraws.errors import BadPlan
from jointdraws.games import Game, out_after
from jointdraws.needs import MOST_BUDGET, need_budget, need_liars, need_number, need_stake, need_wish
from jointdraws.reaching import many_fitting, reached_from
from jointdraws.saving import Saving, rewards_of, saving_within
from jointdraws.shapes import shapes_of
from jointdraws.walks import walk_of


def most_holds(draw, liars, plan):
    """Return the greatest number of holds in a run of a plan."""
    need_liars(draw, liars)
    walk = walk_of(Game(shapes_of(draw), liars), plan)
    if walk is None:
        raise BadPlan(plan)
    return walk.most_held()


def worth_within(draw, liars, wish, budget, *, stake=0):
    """Return the greatest score of all plans that keep a budget."""
    _, saving = _saving_for(draw, liars, wish, budget, stake)
    return saving.worth_left(0, budget)


def plan_within(draw, liars, wish, budget, *, stake=0):
    """Return a plan that keeps a budget, with the greatest score of all these."""
    _, saving = _saving_for(draw, liars, wish, budget, stake)
    return saving.plan_left(0, budget)


def _saving_for(draw, liars, wish, budget, stake):
    """Return the game and the best ways to act within a budget, behind the errors of the functions for a budget."""
    need_liars(draw, liars)
    need_wish(draw, wish)
    need_budget(budget)
    need_stake(stake)
    game = Game(shapes_of(draw), liars)
    return game, saving_within(game, wish, stake, budget)


def worths_within(draw, liars, wish, *, stake=0):
    """Return the list of the worths within the budgets 0, 1, 2 and so on, until it does not change any more."""
    need_liars(draw, liars)
    need_wish(draw, wish)
    need_stake(stake)
    return _worths_until_all(draw, liars, wish, stake)


def least_budget(draw, liars, wish, goal, *, stake=0):
    """Return the least budget within which the worth is at least a goal, None if there is none."""
    need_liars(draw, liars)
    need_wish(draw, wish)
    need_number(goal)
    need_stake(stake)
    for budget, worth in enumerate(_worths_until_all(draw, liars, wish, stake)):
        if not worth.below(goal):
            return budget
    return None


def _worths_until_all(draw, liars, wish, stake):
    """Return the list of the worths within the budgets from 0 on, up to the first one that is as great as any."""
    game = Game(shapes_of(draw), liars)
    whole = Acting(game, wish, stake).best()
    saving = Saving(game, stake, list(wish.values()))
    worths = []
    while len(worths) <= MOST_BUDGET and (not worths or worths[-1] != whole):
        saving.add_layer(rewards_of(game, wish))
        worths.append(saving.worth_left(0, len(worths)))
    # Where budgets end ahead of the greatest worth, the last ones may be alike.
    while len(worths) > 1 and worths[-2] == worths[-1]:
        worths.pop()
    return worths


def table_within(draw, liars, wish, budget, *, stake=0):
    """Return the dict from all purses that can be come to within a budget, to the worths there."""
    game, saving = _saving_for(draw, liars, wish, budget, stake)
    purses = reached_from(((), (), budget), _next_purses_in(game))
    return {purse: saving.worth_left(purses[purse], purse[2]) for purse in purses}


def is_table_within(draw, liars, wish, budget, value, *, stake=0):
    """Tell whether a value is a dict from just all purses within a budget, to numbers equal to the worths there."""
    game, saving = _saving_for(draw, liars, wish, budget, stake)

    def fits(purse, number):
        return purse in value and saving.worth_left(number, purse[2]) == value[purse]

    if not isinstance(value, dict):
        return False
    return many_fitting(((), (), budget), _next_purses_in(game), fits) == len(value)


def _next_purses_in(game):
    """Return the function that tells to which purses the choices at a purse lead, with the numbers of their states."""

    def next_purses(purse, number):
        path, out, left = purse
        state = game.states[number]
        return [((path + (row,), out_after(state.draw, out, held), left - len(held)), after)
                for _, held, row, after in state.choices() if len(held) <= left]

    return next_purses
