"""The ways in which the honest people can give their numbers if liars act by a plan."""

from jointdraws.checks import is_whole
from jointdraws.ratios import Ratio


def ways_of(game, value, start=0):
    """Return the runs of a plan, as tuples (path, number of the state of the end, holds, chance), in their order.

    The plan is one for the state with the number of the start. If the value is not a plan, return None.
    """
    ways = []
    waiting = [(start, value, (), 0, 1)]
    while waiting:
        number, plan, path, holds, part = waiting.pop()
        state = game.states[number]
        if not isinstance(plan, tuple) or len(plan) != len(state.weights):
            return None
        if not plan:
            ways.append((path, number, holds, Ratio(part, game.states[start].unit)))
        else:
            picks = _picks_of(state, plan)
            if picks is None:
                return None
            factors = dict(state.factors)
            steps = list(zip(state.weights, picks, plan))
            for weight, (_, held, row, after), (_, _, then) in reversed(steps):
                share = part * weight * factors[after]
                waiting.append((after, then, path + (row,), holds + len(held), share))
    return ways


def _picks_of(state, plan):
    """Return the choices that the items of a plan for a round tell; None if there are no such ones."""
    if not all([_is_item(thing) for thing in plan]):
        return None
    for move in state.moves:
        picks = []
        for choices, (given, held, _) in zip(move, plan):
            picks.extend([choice for choice in choices if choice[:2] == (given, held)])
        if len(picks) == len(plan):
            return picks
    return None


def _is_item(value):
    """Tell whether a value has the form of an item of a plan: (given, held, then)."""
    if not isinstance(value, tuple) or len(value) != 3:
        return False
    return isinstance(value[0], tuple) and all([is_whole(number) for number in value[0]])
