"""The best ways to act in a game."""

from math import lcm

from jointdraws.games import Game
from jointdraws.ratios import Ratio, as_ratio
from jointdraws.shapes import shapes_of


class Acting:
    """What liars get at the most in a game with a wish and a stake, and what they do for it.

    All is reckoned with integers: the wish and the stake are multiplied by one number, the size, and
    the means at a state by its unit, too.
    """

    def __init__(self, game, wish, stake):
        self._game = game
        self._size = as_ratio(stake).bottom
        for wished in wish.values():
            self._size = lcm(self._size, as_ratio(wished).bottom)
        cost = (stake * Ratio(self._size)).top
        rewards = {name: (wish[name] * Ratio(self._size)).top for name in wish}
        self._values = [0] * game.many
        self._picks = [[]] * game.many
        for number in game.order:
            state = game.states[number]
            if state.weights:
                self._values[number], self._picks[number] = self._best_with(state, cost)
            else:
                self._values[number] = rewards[state.draw.name]

    def _best_with(self, state, cost):
        """Return the greatest value of a round, and the choices for it, if those behind it are known."""
        scaled = {after: self._values[after] * factor for after, factor in state.factors}
        price = cost * state.inner

        def value_of(choice):
            return scaled[choice[3]] - len(choice[1]) * price

        return best_move(state, value_of)

    def worth_at(self, number):
        """Return the worth at a state."""
        return Ratio(self._values[number], self._game.states[number].unit * self._size)

    def best(self):
        """Return the worth of the draw."""
        return self.worth_at(0)

    def plan(self):
        """Return a plan for what is done."""
        told = [()] * self._game.many
        for number in self._game.order:
            told[number] = tuple([(given, held, told[after]) for given, held, _, after in self._picks[number]])
        return told[0]

    def part_of(self, name):
        """Return the chance with which an end with a name comes of what is done, multiplied by the unit."""
        return self._mean({name: 1}, 0)

    def mean_held(self):
        """Return the mean of the number of holds of what is done."""
        return Ratio(self._mean({}, 1), self._game.states[0].unit)

    def _mean(self, rewards, each):
        """Return the mean of rewards for names of ends, 0 where none is told, and of so much for each hold."""
        means = [0] * self._game.many
        for number in self._game.order:
            state = self._game.states[number]
            if state.weights:
                scaled = {after: means[after] * factor for after, factor in state.factors}
                added = 0
                for weight, (_, held, _, after) in zip(state.weights, self._picks[number]):
                    added = added + weight * (scaled[after] + len(held) * each * state.inner)
                means[number] = added
            else:
                means[number] = rewards.get(state.draw.name, 0)
        return means[0]


def acting_in(draw, liars, wish, stake):
    """Return the best way to act in a draw."""
    return Acting(Game(shapes_of(draw), liars), wish, stake)


def best_move(state, value_of):
    """Return the greatest mean of a move of a round, and the list of its choices, one for each row.

    The values of choices are told by a function; it tells None of those that are not allowed.
    """
    best = None
    picks = []
    for move in state.moves:
        added = 0
        chosen = []
        for weight, choices in zip(state.weights, move):
            value, choice = _best_choice(choices, value_of)
            added = added + weight * value
            chosen.append(choice)
        if best is None or best < added:
            best = added
            picks = chosen
    return best, picks


def _best_choice(choices, value_of):
    """Return the greatest value of a choice, and this choice."""
    best = None
    pick = None
    for choice in choices:
        value = value_of(choice)
        if value is not None and (best is None or best < value):
            best = value
            pick = choice
    return best, pick
