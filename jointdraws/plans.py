"""Plans of liars: their number, all of them, and what comes of one of them."""

from jointdraws.errors import BadPlan, TooMany
from jointdraws.games import Game
from jointdraws.needs import need_liars, need_stake, need_wish
from jointdraws.ratios import total
from jointdraws.shapes import shapes_of
from jointdraws.walks import walk_of

MOST_PLANS = 2000


def count_plans(draw, liars):
    """Return the number of all plans."""
    need_liars(draw, liars)
    return _count(Game(shapes_of(draw), liars))


def _count(game):
    """Return the number of all plans of a game."""
    counts = [0] * game.many
    for number in game.order:
        for move in game.states[number].moves:
            ways = 1
            for choices in move:
                ways = ways * sum([counts[choice[3]] for choice in choices])
            counts[number] = counts[number] + ways
    return counts[0]


def plans(draw, liars):
    """Yield all plans in ascending order."""
    need_liars(draw, liars)
    game = Game(shapes_of(draw), liars)
    count = _count(game)
    if count > MOST_PLANS:
        raise TooMany(count)
    yield from _all_plans(game)


def _all_plans(game):
    """Return the ascending list of all plans of a game."""
    told = [[]] * game.many
    for number in game.order:
        found = []
        for move in game.states[number].moves:
            begun = [()]
            for choices in move:
                things = [(given, held, then) for given, held, _, after in choices for then in told[after]]
                begun = [plan + (thing,) for plan in begun for thing in things]
            found.extend(begun)
        told[number] = found
    return told[0]


def is_plan(draw, liars, value):
    """Tell whether a value is a plan."""
    need_liars(draw, liars)
    return walk_of(Game(shapes_of(draw), liars), value) is not None


def runs(draw, liars, plan):
    """Return the runs of a plan: tuples (path, held, chance), in the order of its items."""
    return _walk(draw, liars, plan).runs()


def plan_shares(draw, liars, plan):
    """Return the dict from the names of all ends to their chances with a plan."""
    return _walk(draw, liars, plan).shares(draw.ends())


def held_mean(draw, liars, plan):
    """Return the mean of the number of holds with a plan."""
    return _walk(draw, liars, plan).mean_held()


def score(draw, liars, plan, wish, *, stake=0):
    """Return the score of a plan: the mean of the wish, less the stake for each hold."""
    walk = _walk(draw, liars, plan)
    need_wish(draw, wish)
    need_stake(stake)
    shares = walk.shares(draw.ends())
    return total([shares[name] * wish[name] for name in shares]) - walk.mean_held() * stake


def _walk(draw, liars, plan):
    """Return the walk of a plan, behind the errors of the functions for one."""
    need_liars(draw, liars)
    walk = walk_of(Game(shapes_of(draw), liars), plan)
    if walk is None:
        raise BadPlan(plan)
    return walk
