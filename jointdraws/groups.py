"""Sets of people, told as ascending tuples. Those with fewer people stand first, of equally many as tuples do."""

from itertools import combinations

from jointdraws.ratios import total


def all_sets(people):
    """Return the list of all sets of people, who are told in ascending order."""
    return sets_up_to(people, len(people))


def sets_up_to(people, most):
    """Return the list of all sets of at most so many people, who are told in ascending order."""
    sets = []
    for size in range(most + 1):
        for chosen in combinations(people, size):
            sets.append(chosen)
    return sets


def least_of(sets):
    """Return those of some sets, told in their order, within which there is no other one of them."""
    kept = []
    for chosen in sets:
        if not any([is_within(other, chosen) for other in kept]):
            kept.append(chosen)
    return kept


def is_within(some, others):
    """Tell whether all of some people are among others."""
    return all([person in others for person in some])


def cheapest_of(sets, prices):
    """Return the least sum of prices of a set, and the first such set; None if there are no sets."""
    best = None
    for chosen in sets:
        price = total([prices[person] for person in chosen])
        if best is None or price.below(best[0]):
            best = (price, chosen)
    return best
