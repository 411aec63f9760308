"""Plans of liars: their number, all of them, and what comes of one of them."""

from jointdraws.errors import BadPlan, TooMany
from jointdraws.games import Game
from jointdraws.needs import need_liars, need_stake, need_wish
from jointdraws.ratios import Ratio, total
from jointdraws.shapes import shapes_of
from jointdraws.walks import ways_of

MOST_PLANS = 2000


def count_plans(draw, liars):
    """Return the number of all plans."""
    need_liars(draw, liars)
    return _count(Game(shapes_of(draw), liars))


def _count(game):
    """Return the number of all plans of a game."""
    counts = [0] * game.many
    for number in game.order:
        for move in game.states[number].moves:
            ways = 1
            for choices in move:
                ways = ways * sum([counts[choice[3]] for choice in choices])
            counts[number] = counts[number] + ways
    return counts[0]


def plans(draw, liars):
    """Yield all plans in ascending order."""
    need_liars(draw, liars)
    game = Game(shapes_of(draw), liars)
    count = _count(game)
    if count > MOST_PLANS:
        raise TooMany(count)
    yield from _all_plans(game)


def _all_plans(game):
    """Return the ascending list of all plans of a game."""
    told = [[]] * game.many
    for number in game.order:
        found = []
        for move in game.states[number].moves:
            begun = [()]
            for choices in move:
                things = [(given, held, then) for given, held, _, after in choices for then in told[after]]
                begun = [plan + (thing,) for plan in begun for thing in things]
            found.extend(begun)
        told[number] = found
    return told[0]


def is_plan(draw, liars, value):
    """Tell whether a value is a plan."""
    need_liars(draw, liars)
    return ways_of(Game(shapes_of(draw), liars), value) is not None


def runs(draw, liars, plan):
    """Return the runs of a plan: tuples (path, held, chance), in the order of its items."""
    return [(path, held, part) for path, _, held, part in _runs_to_ends(draw, liars, plan)]


def plan_shares(draw, liars, plan):
    """Return the dict from the names of all ends to their chances with a plan."""
    return _shares_of(draw, _runs_to_ends(draw, liars, plan))


def held_mean(draw, liars, plan):
    """Return the mean of the number of holds with a plan."""
    return _held_of(_runs_to_ends(draw, liars, plan))


def score(draw, liars, plan, wish, *, stake=0):
    """Return the score of a plan: the mean of the wish, less the stake for each hold."""
    ways = _runs_to_ends(draw, liars, plan)
    need_wish(draw, wish)
    need_stake(stake)
    shares = _shares_of(draw, ways)
    return total([shares[name] * wish[name] for name in shares]) - _held_of(ways) * stake


def _shares_of(draw, ways):
    """Return the dict from the names of all ends to their chances."""
    shares = {name: Ratio(0) for name in draw.ends()}
    for _, name, _, part in ways:
        shares[name] = shares[name] + part
    return shares


def _held_of(ways):
    """Return the mean of the number of holds."""
    return total([part * held for _, _, held, part in ways])


def _runs_to_ends(draw, liars, plan):
    """Return the runs of a plan with the names of their ends: tuples (path, name, held, chance)."""
    need_liars(draw, liars)
    game = Game(shapes_of(draw), liars)
    ways = ways_of(game, plan)
    if ways is None:
        raise BadPlan(plan)
    return [(path, game.states[number].draw.name, held, part) for path, number, held, part in ways]
