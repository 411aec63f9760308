"""The best ways to act in a game if there may be no more than so many holds on the way.

What is left of the number of holds is a part of what liars know at a state, so there is a layer of worths for each
number that can be left, from 0 on; what is behind a hold is looked up in a lower layer.
"""

from math import lcm

from jointdraws.acting import best_move
from jointdraws.ratios import Ratio, as_ratio


class Saving:
    """What liars get at the most in a game with a stake, layer by layer.

    All is reckoned with integers: numbers are multiplied by one number, the size, and the means at a state by its
    unit, too. All numbers for the ends of all layers are told at first.
    """

    def __init__(self, game, stake, numbers):
        self._game = game
        self._size = as_ratio(stake).bottom
        for number in numbers:
            self._size = lcm(self._size, as_ratio(number).bottom)
        self._cost = (stake * Ratio(self._size)).top
        self._layers = []
        self._picks = []

    def add_layer(self, rewards):
        """Work out the next layer, by the dict from the numbers of the states of ends to what is got there."""
        layer = [0] * self._game.many
        picks = [[]] * self._game.many
        self._layers.append(layer)
        self._picks.append(picks)
        for number in self._game.order:
            state = self._game.states[number]
            if state.weights:
                layer[number], picks[number] = self._best_at(state)
            else:
                layer[number] = (rewards[number] * Ratio(self._size)).top

    def _best_at(self, state):
        """Return the greatest value of a round in the last layer, and the choices for it."""
        factors = dict(state.factors)
        price = self._cost * state.inner

        def value_of(choice):
            held = len(choice[1])
            if held >= len(self._layers):
                return None
            return self._layers[-1 - held][choice[3]] * factors[choice[3]] - held * price

        return best_move(state, value_of)

    def worth_left(self, number, left):
        """Return the worth at a state if so many holds are left; with more than there are layers for it is the same."""
        place = min(left, len(self._layers) - 1)
        return Ratio(self._layers[place][number], self._game.states[number].unit * self._size)

    def plan_left(self, number, left):
        """Return a plan with which the worth at a state comes if so many holds are left."""
        told = []
        for picks in self._picks[:left + 1]:
            told.append([()] * self._game.many)
            for here in self._game.order:
                told[-1][here] = tuple([(given, held, told[-1 - len(held)][after])
                                        for given, held, _, after in picks[here]])
        return told[-1][number]


def saving_within(game, wish, stake, budget):
    """Return the best ways to act in a game within all budgets up to one."""
    saving = Saving(game, stake, list(wish.values()))
    for _ in range(min(budget, most_holds_in(game)) + 1):
        saving.add_layer(rewards_of(game, wish))
    return saving


def rewards_of(game, wish):
    """Return the dict from the numbers of the states of ends to what the wish has for them."""
    rewards = {}
    for number in game.order:
        state = game.states[number]
        if not state.weights:
            rewards[number] = wish[state.draw.name]
    return rewards


def most_holds_in(game):
    """Return the greatest number of holds on a way through a game."""
    most = [0] * game.many
    for number in game.order:
        most[number] = max([len(choice[1]) + most[choice[3]] for choice in game.states[number].choices()], default=0)
    return max(most)
