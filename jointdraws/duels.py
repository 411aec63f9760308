"""Duels: what two leagues of liars, who are against each other, can make sure of and keep to."""

from jointdraws.bouts import Duel, Leagues
from jointdraws.needs import need_leagues, need_stake, need_wish


def duel(draw, first, second, wish, *, stake=0):
    """Return the greatest score that the first league can make sure of."""
    return _best_duel(draw, first, second, wish, stake)[1].told()[0]


def guards(draw, first, second, wish, *, stake=0):
    """Return a guard of the first league that makes sure of the duel, and one of the second league that keeps to it."""
    leagues, best = _best_duel(draw, first, second, wish, stake)
    mine = {}
    yours = {}
    spots = leagues.game.spots()
    for path, out in spots:
        number = spots[(path, out)]
        people = [giver[0] for giver in leagues.game.states[number].acting]
        for word, seen, by_first, by_second in best.mixes(number):
            if any([person in first for person in people]):
                mine[(word, path, out, seen)] = list(by_first)
            if any([person in second for person in people]):
                yours[(word, path, out, seen)] = list(by_second)
    return mine, yours


def duel_table(draw, first, second, wish, *, stake=0):
    """Return the dict from all spots that can be come to, to the duels from there on."""
    leagues, best = _best_duel(draw, first, second, wish, stake)
    told = best.told()
    spots = leagues.game.spots()
    return {spot: told[spots[spot]] for spot in spots}


def is_duel_table(draw, first, second, wish, value, *, stake=0):
    """Tell whether a value is a dict from just all spots that can be come to, to numbers equal to the duels there."""
    leagues, best = _best_duel(draw, first, second, wish, stake)
    return leagues.game.are_at_spots(best.told(), value)


def _best_duel(draw, first, second, wish, stake):
    """Return the leagues and the best that both can do, behind the errors of the functions for two leagues."""
    need_leagues(draw, first, second)
    need_wish(draw, wish)
    need_stake(stake)
    leagues = Leagues(draw, first, second, stake)
    return leagues, Duel(leagues, wish)
