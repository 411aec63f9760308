"""Safe draws: those in which nobody gains more than a limit, the cheapest ones, and the best stand-ins."""

from math import lcm

from jointdraws.acting import Acting
from jointdraws.built import of_kind
from jointdraws.draws import KINDS, Round, rows_of
from jointdraws.errors import BadPrices, TooMany
from jointdraws.games import Game
from jointdraws.groups import sets_up_to
from jointdraws.honest import honest_shares
from jointdraws.needs import is_amount, need_count, need_limit, need_stake
from jointdraws.ratios import Ratio, as_ratio, greatest
from jointdraws.shapes import shapes_of
from jointdraws.spreads import Spread

MOST_DRAWS = 1024
KINDS_WITH_HOLDS = ("held", "last")


class Watch:
    """What is watched in draws with the same people and the same chances if all are honest: who gains how much."""

    def __init__(self, draw, most, stake):
        people = draw.people()
        # With more liars the gain is never less, so the largest sets are enough.
        self._sets = [liars for liars in sets_up_to(people, most) if len(liars) == most]
        self._shares = honest_shares(draw)
        self._stake = stake

    def greatest_gain(self, draw, is_fine):
        """Return the greatest gain in a draw, None if there is one that a function does not find fine."""
        shapes = shapes_of(draw)
        gains = [Ratio(0)]
        for liars in list(self._sets):
            for gain in gains_for(shapes, liars, self._shares, self._stake):
                if not is_fine(gain):
                    # Whom one draw is barred for, the next one is likely to be barred for, too.
                    self._sets = [liars] + [others for others in self._sets if others != liars]
                    return None
                gains.append(gain)
        return greatest(gains)


def gains_for(shapes, liars, shares, stake):
    """Return the list of the gains of liars, one for each name of an end, in the order of the honest shares."""
    game = Game(shapes, liars)
    gains = []
    for name in shares:
        wish = {each: 1 if each == name else 0 for each in shares}
        gains.append(Acting(game, wish, stake).best() - shares[name])
    return gains


def is_safe(draw, most, limit, *, stake=0):
    """Tell whether nobody gains more than a limit."""
    _need_bounds(draw, most, limit, stake)
    return _safe_gain(Watch(draw, most, stake), draw, limit) is not None


def _need_bounds(draw, most, limit, stake):
    """Raise the errors of the functions for a number of liars, a limit and a stake."""
    need_count(most, len(draw.people()))
    need_limit(limit)
    need_stake(stake)


def _safe_gain(watch, draw, limit):
    """Return the greatest gain in a draw, None if it is above a limit."""

    def is_fine(gain):
        return not as_ratio(limit).below(gain)

    return watch.greatest_gain(draw, is_fine)


def weak_spot(draw, most, limit, *, stake=0):
    """Return the first set of liars whose gain is above a limit, the first name for which it is, and the gain."""
    _need_bounds(draw, most, limit, stake)
    shares = honest_shares(draw)
    shapes = shapes_of(draw)
    for liars in sets_up_to(draw.people(), most):
        for name, gain in zip(shares, gains_for(shapes, liars, shares, stake)):
            if as_ratio(limit).below(gain):
                return liars, name, gain
    return None


def cheapest(draw, prices, most, limit, *, stake=0):
    """Return the least price of a safe draw with other kinds of rounds, and the first such draw; None if none is."""
    if not _are_prices(prices):
        raise BadPrices(prices)
    _need_bounds(draw, most, limit, stake)
    kinds = [kind for kind in KINDS if kind in prices]
    shapes = shapes_of(draw)
    _need_few(shapes, [len(kinds) if isinstance(shape.draw, Round) else 1 for shape in shapes])
    watch = Watch(draw, most, stake)
    if len(kinds) == 1:
        # There may be any number of rounds, but there is one draw only.
        changed = of_kind(draw, kinds[0])
        price = as_ratio(prices[kinds[0]]) * _many_rounds(shapes)
        return None if _safe_gain(watch, changed, limit) is None else (price, changed)
    spread = Spread(shapes, KINDS)
    givers = [here.givers for here in spread.rounds()]
    for price, words in _in_order_of_prices(kinds, prices, len(givers)):
        changed = spread.changed(words, givers)
        if _safe_gain(watch, changed, limit) is not None:
            return price, changed
    return None


def _are_prices(value):
    """Tell whether a value is a dict from one to four of the words for kinds to numbers from 0 on."""
    if not isinstance(value, dict) or not 1 <= len(value) <= len(KINDS):
        return False
    return all([word in KINDS for word in value]) and all([is_amount(price) for price in value.values()])


def _need_few(shapes, factors):
    """Raise TooMany if there are too many draws to choose from: the factors of all draws within a draw, multiplied.

    There is a factor for each shape, and it counts as often as the shape stands in the text.
    """
    counts = []
    for shape, factor in zip(shapes, factors):
        count = factor
        for place in shape.nexts:
            count = count * counts[place]
        counts.append(count)
    if counts[-1] > MOST_DRAWS:
        raise TooMany(counts[-1])


def _many_rounds(shapes):
    """Return the number of the rounds of a draw, each as often as it stands in the text."""
    counts = []
    for shape in shapes:
        own = 1 if isinstance(shape.draw, Round) else 0
        counts.append(own + sum([counts[place] for place in shape.nexts]))
    return counts[-1]


def _in_order_of_prices(kinds, prices, many):
    """Return tuples (price, kinds) for all ways to choose kinds of so many rounds, those with the least price first."""
    scale = 1
    for kind in kinds:
        scale = lcm(scale, as_ratio(prices[kind]).bottom)
    costs = [(as_ratio(prices[kind]) * scale).top for kind in kinds]
    rows = sorted([(sum([costs[at] for at in row]), row) for row in rows_of([len(kinds)] * many)])
    return [(Ratio(cost, scale), [kinds[place] for place in row]) for cost, row in rows]


def best_stand_ins(draw, most, *, stake=0):
    """Return the least greatest gain that a draw with other stand-ins can have, and the first such draw."""
    need_count(most, len(draw.people()))
    need_stake(stake)
    shapes = shapes_of(draw)
    _need_few(shapes, [_many_stand_ins(shape.draw) for shape in shapes])
    watch = Watch(draw, most, stake)
    spread = Spread(shapes, KINDS_WITH_HOLDS)
    rounds = spread.rounds()
    words = [here.kind for here in rounds]
    best = None
    for row in rows_of([len(giver[1]) for here in rounds for giver in here.givers]):
        changed = spread.changed(words, _with_stand_ins(rounds, row))
        gain = _lesser_gain(watch, changed, best)
        if gain is not None:
            best = (gain, changed)
    return best


def _many_stand_ins(draw):
    """Return the number of ways to choose the stand-ins of the first round; it is 1 if nobody can hold back there."""
    many = 1
    if isinstance(draw, Round) and draw.kind in KINDS_WITH_HOLDS:
        for _, shares, _ in draw.givers:
            many = many * len(shares)
    return many


def _with_stand_ins(rounds, stand_ins):
    """Return the list of the givers of rounds with other stand-ins, told one after the other."""
    at = 0
    told = []
    for here in rounds:
        givers = []
        for person, shares, _ in here.givers:
            givers.append((person, shares, stand_ins[at]))
            at = at + 1
        told.append(givers)
    return told


def _lesser_gain(watch, draw, best):
    """Return the greatest gain in a draw, None unless it is below the best one by now."""

    def is_fine(gain):
        return best is None or gain.below(best[0])

    return watch.greatest_gain(draw, is_fine)
