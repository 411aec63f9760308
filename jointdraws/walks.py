"""The ways on which a plan leads through a game.

Plans that the package returned may have the same part at many places, and far more items than parts. Whether
two parts are the same object is not to be seen, so it is only if a plan has very many items that parts are compared,
and equal ones gone through once. All others are gone through item by item.
"""

from jointdraws.checks import is_whole
from jointdraws.ratios import Ratio

MANY_STEPS = 50000


class Step:
    """A part of a plan for the state with a number: the choices of its items, and the places of the next steps."""

    def __init__(self, number, picks):
        self.number = number
        self.picks = picks
        self.nexts = []


class Walk:
    """All steps of a plan, the first one at the start; each may be come to on several ways."""

    def __init__(self, game, start, steps):
        self._game = game
        self._unit = game.states[start].unit
        self._steps = steps
        ranks = {number: rank for rank, number in enumerate(game.order)}
        # The next steps of a step stand ahead of it.
        self._order = sorted(range(len(steps)), key=lambda place: ranks[steps[place].number])

    def _name_of(self, step):
        """Return the name of the end of the last step of a way."""
        return self._game.states[step.number].draw.name

    def _shared_out(self, step, part):
        """Return the list of the parts of the next steps, if the chance of a step is told by a part.

        A part is the chance multiplied by the unit of the start and divided by that of the state, an integer.
        """
        state = self._game.states[step.number]
        factors = dict(state.factors)
        return [part * weight * factors[choice[3]] for weight, choice in zip(state.weights, step.picks)]

    def runs(self):
        """Return the list of tuples (path, held, chance), in the order of the items."""
        found = []
        waiting = [(0, (), 0, 1)]
        while waiting:
            place, path, held, part = waiting.pop()
            step = self._steps[place]
            if not step.picks:
                found.append((path, held, Ratio(part, self._unit)))
            ahead = list(zip(step.nexts, step.picks, self._shared_out(step, part)))
            for further, choice, share in reversed(ahead):
                waiting.append((further, path + (choice[2],), held + len(choice[1]), share))
        return found

    def shares(self, names):
        """Return the dict from names of ends to their chances."""
        parts = self._all_parts()
        told = {name: 0 for name in names}
        for part, step in zip(parts, self._steps):
            if not step.picks:
                told[self._name_of(step)] = told[self._name_of(step)] + part
        return {name: Ratio(told[name], self._unit) for name in told}

    def mean_held(self):
        """Return the mean of the number of holds."""
        parts = self._all_parts()
        added = 0
        for part, step in zip(parts, self._steps):
            state = self._game.states[step.number]
            for weight, choice in zip(state.weights, step.picks):
                added = added + part * weight * state.inner * len(choice[1])
        return Ratio(added, self._unit)

    def _all_parts(self):
        """Return the list of the parts by which the chances of the steps are told."""
        parts = [0] * len(self._steps)
        parts[0] = 1
        for place in reversed(self._order):
            step = self._steps[place]
            for further, share in zip(step.nexts, self._shared_out(step, parts[place])):
                parts[further] = parts[further] + share
        return parts

    def most_held(self):
        """Return the greatest number of holds on a way."""
        most = [0] * len(self._steps)
        for place in self._order:
            step = self._steps[place]
            for further, choice in zip(step.nexts, step.picks):
                most[place] = max(most[place], most[further] + len(choice[1]))
        return most[0]

    def ends(self):
        """Return the list of tuples (number of the state of an end, holds, chance), all different in the first two."""
        parts = [{} for _ in self._steps]
        parts[0] = {0: 1}
        found = []
        for place in reversed(self._order):
            step = self._steps[place]
            for held, part in list(parts[place].items()):
                if not step.picks:
                    found.append((step.number, held, Ratio(part, self._unit)))
                for further, choice, share in zip(step.nexts, step.picks, self._shared_out(step, part)):
                    now = held + len(choice[1])
                    parts[further][now] = parts[further].get(now, 0) + share
        return found

    def number_in(self, known):
        """Return the number of the plan in a dict from what plans are made of to numbers; a new one is put in."""
        told = [0] * len(self._steps)
        for place in self._order:
            step = self._steps[place]
            nexts = tuple([told[further] for further in step.nexts])
            key = (step.number, tuple([choice[:2] for choice in step.picks]), nexts)
            told[place] = known.setdefault(key, len(known))
        return told[0]


def walk_of(game, value, start=0):
    """Return the walk of a plan for the state with the number of the start, None if the value is not a plan."""
    steps = _steps_of(game, value, start, False)
    if steps is not None and len(steps) > MANY_STEPS:
        steps = _steps_of(game, value, start, True)
    return None if steps is None else Walk(game, start, steps)


def _steps_of(game, value, start, comparing):
    """Return the list of the steps of a plan, None if the value is not a plan.

    Without comparing, it ends when there are too many steps.
    """
    steps = []
    known = {}
    waiting = [(start, value, None)]
    while waiting and (comparing or len(steps) <= MANY_STEPS):
        number, plan, before = waiting.pop()
        places = [place for place, other in known.get(number, []) if other == plan] if comparing else []
        if not places:
            picks = _picks_of(game.states[number], plan)
            if picks is None:
                return None
            places = [len(steps)]
            steps.append(Step(number, picks))
            if comparing:
                known.setdefault(number, []).append((places[0], plan))
            ahead = list(zip(picks, plan))
            for choice, (_, _, then) in reversed(ahead):
                waiting.append((choice[3], then, places[0]))
        if before is not None:
            steps[before].nexts.append(places[0])
    return steps


def _picks_of(state, plan):
    """Return the choices that the items of a plan for a state tell, none at an end; None if it is not a plan."""
    if not isinstance(plan, tuple) or len(plan) != len(state.weights) or not all([_is_item(thing) for thing in plan]):
        return None
    for move in state.moves:
        picks = []
        for choices, (given, held, _) in zip(move, plan):
            picks.extend([choice for choice in choices if choice[:2] == (given, held)])
        if len(picks) == len(plan):
            return picks
    return None


def _is_item(value):
    """Tell whether a value has the form of an item of a plan: (given, held, then)."""
    if not isinstance(value, tuple) or len(value) != 3:
        return False
    return isinstance(value[0], tuple) and all([is_whole(number) for number in value[0]])
