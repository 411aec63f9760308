"""Worths: the greatest scores that liars can get."""

from jointdraws.acting import Acting, acting_in
from jointdraws.games import Game
from jointdraws.groups import sets_up_to
from jointdraws.honest import honest_mean
from jointdraws.needs import need_count, need_liars, need_stake, need_wish
from jointdraws.shapes import shapes_of


def worth(draw, liars, wish, *, stake=0):
    """Return the greatest score of a plan."""
    return _best_acting(draw, liars, wish, stake).best()


def gain(draw, liars, wish, *, stake=0):
    """Return what the worth is above the mean if all are honest."""
    return _best_acting(draw, liars, wish, stake).best() - honest_mean(draw, wish)


def best_plan(draw, liars, wish, *, stake=0):
    """Return a plan whose score is the worth."""
    return _best_acting(draw, liars, wish, stake).plan()


def _best_acting(draw, liars, wish, stake):
    """Return the best way to act, behind the errors that all functions for some liars raise."""
    need_liars(draw, liars)
    need_wish(draw, wish)
    need_stake(stake)
    return acting_in(draw, liars, wish, stake)


def table(draw, liars, wish, *, stake=0):
    """Return the dict from all spots that can be come to, to the worths there."""
    game, told = _worths_of_states(draw, liars, wish, stake)
    spots = game.spots()
    return {spot: told[spots[spot]] for spot in spots}


def is_table(draw, liars, wish, value, *, stake=0):
    """Tell whether a value is a dict from all spots that can be come to, to numbers equal to the worths there."""
    game, told = _worths_of_states(draw, liars, wish, stake)
    return game.are_at_spots(told, value)


def _worths_of_states(draw, liars, wish, stake):
    """Return the game, and the list of the worths at its states, behind the errors of the functions for some liars."""
    need_liars(draw, liars)
    need_wish(draw, wish)
    need_stake(stake)
    game = Game(shapes_of(draw), liars)
    acting = Acting(game, wish, stake)
    return game, [acting.worth_at(number) for number in range(game.many)]


def worths(draw, wish, *, stake=0):
    """Return the dict from all sets of people to the worths for them."""
    need_wish(draw, wish)
    need_stake(stake)
    return _worths_of_sets(draw, wish, stake, len(draw.people()))


def greatest_worth(draw, wish, most, *, stake=0):
    """Return the greatest worth for at most so many liars, and the first such set."""
    need_wish(draw, wish)
    need_count(most, len(draw.people()))
    need_stake(stake)
    told = _worths_of_sets(draw, wish, stake, most)
    best = ()
    for liars in told:
        if told[best].below(told[liars]):
            best = liars
    return told[best], best


def _worths_of_sets(draw, wish, stake, most):
    """Return the dict from the sets of at most so many people to the worths, in the order of the sets."""
    shapes = shapes_of(draw)
    sets = sets_up_to(draw.people(), most)
    return {liars: Acting(Game(shapes, liars), wish, stake).best() for liars in sets}
