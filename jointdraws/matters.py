"""Who matters: which people bring about more as liars, and who is enough for something."""

from math import comb

from jointdraws.errors import BadLiars, NoPerson
from jointdraws.groups import cheapest_of, least_of
from jointdraws.needs import need_few_names, need_liars, need_number, need_prices, need_stake, need_wish
from jointdraws.ratios import Ratio, total
from jointdraws.regions import Region
from jointdraws.worths import worths


def matters(draw, person, liars=()):
    """Tell whether for some wish the worth for some liars and a person together is above that for the liars alone."""
    if person not in draw.people():
        raise NoPerson(person)
    need_liars(draw, liars)
    if person in liars:
        raise BadLiars(liars)
    need_few_names(draw)
    return len(_those_who_matter(draw, [person], liars)) == 1


def who_matters(draw, liars=()):
    """Return the ascending list of all people who matter beside some liars."""
    need_liars(draw, liars)
    need_few_names(draw)
    return _those_who_matter(draw, [person for person in draw.people() if person not in liars], liars)


def _those_who_matter(draw, people, liars):
    """Return those of some people who matter beside some liars."""
    # With a person more nothing is lost, so there is a wish that shows a difference if there is any.
    alone = Region(draw, liars).chances()
    return [person for person in people if Region(draw, list(liars) + [person]).chances() != alone]


def least_sets(draw, wish, bound, *, stake=0):
    """Return the list of the least sets of people for whom the worth is at least a bound."""
    need_wish(draw, wish)
    need_number(bound)
    need_stake(stake)
    return least_of(_sets_enough(draw, wish, bound, stake))


def _sets_enough(draw, wish, bound, stake):
    """Return the list of all sets of people for whom the worth is at least a bound."""
    told = worths(draw, wish, stake=stake)
    return [liars for liars in told if not told[liars].below(bound)]


def needed_people(draw, wish, bound, *, stake=0):
    """Return the people who are in all sets that are enough, None if there is no such set."""
    sets = least_sets(draw, wish, bound, stake=stake)
    if not sets:
        return None
    return [person for person in draw.people() if all([person in liars for liars in sets])]


def idle_people(draw, wish, bound, *, stake=0):
    """Return the people who are in none of the least sets that are enough, None if there is no such set."""
    sets = least_sets(draw, wish, bound, stake=stake)
    if not sets:
        return None
    return [person for person in draw.people() if not any([person in liars for liars in sets])]


def cheapest_set(draw, wish, bound, prices, *, stake=0):
    """Return the least sum of prices of a set that is enough, and the first such set; None if no set is enough."""
    need_wish(draw, wish)
    need_number(bound)
    need_prices(draw, prices)
    need_stake(stake)
    return cheapest_of(_sets_enough(draw, wish, bound, stake), prices)


def parts_of_gain(draw, wish, *, stake=0):
    """Return the dict from the people to what the worth rises by with them in the mean of all orders of the people."""
    told = worths(draw, wish, stake=stake)
    return {person: _part_of(person, told, len(draw.people())) for person in draw.people()}


def _part_of(person, told, many):
    """Return the mean of what the worth rises by with a person, if it is told for all sets of so many people."""
    parts = []
    for liars in told:
        if person not in liars:
            rise = told[tuple(sorted(liars + (person,)))] - told[liars]
            # So large a part of all orders has just these people ahead of the person.
            parts.append(rise * Ratio(1, many * comb(many - 1, len(liars))))
    return total(parts)
