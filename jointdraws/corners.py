"""Corners: what liars can bring about if stakes are left aside, whatever they wish."""

from jointdraws.acting import Acting
from jointdraws.checks import has_just
from jointdraws.errors import BadCorner
from jointdraws.games import Game
from jointdraws.needs import is_amount, need_common_liars, need_few_names, need_liars, need_names
from jointdraws.ratios import as_ratio, total
from jointdraws.regions import Region
from jointdraws.shapes import shapes_of


def corners(draw, liars):
    """Return the ascending list of all corners, as tuples (chances of the names of the ends, plan)."""
    need_liars(draw, liars)
    need_few_names(draw)
    return Region(draw, liars).corners()


def can_reach(draw, liars, shares):
    """Tell whether liars can reach chances of the names of the ends."""
    return barring_wish(draw, liars, shares) is None


def mix(draw, liars, shares):
    """Return tuples (chance, plan) by which liars reach chances; None if they cannot."""
    _need_shares(draw, liars, shares)
    return Region(draw, liars).mix(_in_order(draw, shares))


def barring_wish(draw, liars, shares):
    """Return a wish whose mean by chances is above the worth; None if liars can reach the chances."""
    _need_shares(draw, liars, shares)
    return Region(draw, liars).barring_wish(_in_order(draw, shares))


def _need_shares(draw, liars, value):
    """Raise the errors of the functions for some chances: BadCorner unless a value tells chances of just the names."""
    need_liars(draw, liars)
    need_few_names(draw)
    if not has_just(value, draw.ends()) or not all([is_amount(part) for part in value.values()]):
        raise BadCorner(value)
    if total(list(value.values())) != 1:
        raise BadCorner(value)


def _in_order(draw, shares):
    """Return the tuple of chances in the order of the names."""
    return tuple([as_ratio(shares[name]) for name in draw.ends()])


def alike_for_wishes(one, other, liars):
    """Tell whether two draws have the same worth for every wish."""
    _need_comparable(one, other, liars)
    return Region(one, liars).chances() == Region(other, liars).chances()


def never_worse(one, other, liars):
    """Tell whether the one draw has at least the worth of the other one for every wish."""
    return parting_wish(one, other, liars) is None


def parting_wish(one, other, liars):
    """Return a wish for which the worth of the one draw is less than that of the other one, None if there is none."""
    _need_comparable(one, other, liars)
    region = Region(one, liars)
    for chances in Region(other, liars).chances():
        wish = region.barring_wish(chances)
        if wish is not None:
            return wish
    return None


def _need_comparable(one, other, liars):
    """Raise the errors of the functions for two draws."""
    need_common_liars(one, other, liars)
    need_few_names(one)


def bounds_of(draw, liars, names):
    """Return the least and the greatest chance with which an end with one of some names comes by plans."""
    need_liars(draw, liars)
    need_names(draw, names)
    game = Game(shapes_of(draw), liars)
    seek = {name: 1 if name in names else 0 for name in draw.ends()}
    shun = {name: -seek[name] for name in seek}
    return (-Acting(game, shun, 0).best(), Acting(game, seek, 0).best())
