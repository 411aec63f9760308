"""Mixtures: what liars get if they choose among plans by chances, with so many holds in the mean."""

from jointdraws.checks import is_list
from jointdraws.errors import BadMixture
from jointdraws.games import Game
from jointdraws.needs import need_liars, need_limit, need_wish
from jointdraws.ratios import Ratio, as_ratio, is_number, total
from jointdraws.shapes import shapes_of
from jointdraws.stakes import best_lines
from jointdraws.walks import walk_of


def mixture_score(draw, liars, mixture, wish):
    """Return the mean of the wish, and the mean of the number of holds, with a mixture."""
    need_liars(draw, liars)
    if not _is_list_of_parts(mixture):
        raise BadMixture(mixture)
    game = Game(shapes_of(draw), liars)
    walks = [walk_of(game, plan) for _, plan in mixture]
    if None in walks or not _are_different(walks):
        raise BadMixture(mixture)
    need_wish(draw, wish)
    means = []
    holds = []
    for (part, _), walk in zip(mixture, walks):
        shares = walk.shares(draw.ends())
        means.append(total([shares[name] * wish[name] for name in shares]) * part)
        holds.append(walk.mean_held() * part)
    return total(means), total(holds)


def _is_list_of_parts(value):
    """Tell whether a value is a list of tuples (chance, plan), whatever the plans, with chances that add up to 1."""
    if not is_list(value) or not all([isinstance(part, tuple) and len(part) == 2 for part in value]):
        return False
    chances = [part[0] for part in value]
    if not all([is_number(chance) for chance in chances]):
        return False
    return all([Ratio(0).below(chance) for chance in chances]) and total(chances) == 1


def _are_different(walks):
    """Tell whether no two of the plans of some walks through a game are equal."""
    known = {}
    numbers = [walk.number_in(known) for walk in walks]
    return len(set(numbers)) == len(numbers)


def mixture(draw, liars, wish, mean):
    """Return a mixture of at most two plans that is best for the wish with so many holds in the mean."""
    need_liars(draw, liars)
    need_wish(draw, wish)
    need_limit(mean)
    parts = _best_parts(draw, liars, wish, mean)
    return [(part, line.plan()) for part, line in parts]


def worth_in_mean(draw, liars, wish, mean):
    """Return the greatest mean of the wish with so many holds in the mean."""
    need_liars(draw, liars)
    need_wish(draw, wish)
    need_limit(mean)
    return total([line.mean * part for part, line in _best_parts(draw, liars, wish, mean)])


def _best_parts(draw, liars, wish, mean):
    """Return tuples (chance, line) of one or two lines of best plans that are best with so many holds in the mean."""
    before = None
    for _, line in best_lines(draw, liars, wish):
        # Each line has less holds than the one before, and the last one has none, so the mean is kept at some time.
        if not as_ratio(mean).below(line.holds):
            if before is None or line.holds == mean:
                return [(Ratio(1), line)]
            part = (line.holds - mean).over(line.holds - before.holds)
            return [(part, before), (1 - part, line)]
        before = line
    return []
