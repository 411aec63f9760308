"""What two leagues can do against each other in a draw.

In each round both leagues choose without knowing what the other one chooses then: first the numbers that they
give, and, where somebody can hold back, who does when all numbers are known.
"""

from jointdraws.games import Game
from jointdraws.matrices import solved
from jointdraws.ratios import Ratio, as_ratio, total
from jointdraws.shapes import shapes_of


class Leagues:
    """Two leagues in a draw, with a stake that the first one loses for its holds, and the second one for its own."""

    def __init__(self, draw, first, second, stake):
        self.game = Game(shapes_of(draw), list(first) + list(second))
        self.first = first
        self._stake = stake

    def value_at(self, state, value_behind, settle):
        """Return the value of a round.

        The values behind its choices are told by a function, and so are those of what both leagues choose at the
        same time: a function of the word of the moment, of what is seen there, and of the list of tuples (choice
        of the first league, choice of the second one, value).
        """
        if state.draw.kind == "open":
            parts = []
            for seen, choices in zip(state.seens(), state.moves[0]):
                met = [self._parted(state, choice[0]) + (value_behind(choice),) for choice in choices]
                parts.append(settle("give", seen, met))
            return _mean_of(state, parts)
        met = []
        for move in state.moves:
            parts = [self._value_of_holds(choices, value_behind, settle) for choices in move]
            met.append(self._parted(state, move[0][0][0]) + (_mean_of(state, parts),))
        return settle("give", (), met)

    def _parted(self, state, given):
        """Return the numbers that the first league gives, and those that the second one gives."""
        mine = [number for giver, number in zip(state.acting, given) if giver[0] in self.first]
        yours = [number for giver, number in zip(state.acting, given) if giver[0] not in self.first]
        return (tuple(mine), tuple(yours))

    def _value_of_holds(self, choices, value_behind, settle):
        """Return the value when all numbers of a round other than an open one are known, by the choices of holds."""
        if len(choices) == 1:
            return value_behind(choices[0])
        met = []
        for choice in choices:
            mine = tuple([person for person in choice[1] if person in self.first])
            yours = tuple([person for person in choice[1] if person not in self.first])
            met.append((mine, yours, value_behind(choice) - (len(mine) - len(yours)) * self._stake))
        # In the first one of the choices nobody holds back.
        return settle("hold", choices[0][2], met)


def _mean_of(state, parts):
    """Return the mean of values, one for each row of the honest givers."""
    return total([part * weight for part, weight in zip(parts, state.weights)]).over(state.base)


class Duel:
    """The best that both leagues can do, at all states of their game."""

    def __init__(self, leagues, wish):
        self._leagues = leagues
        self._values = [Ratio(0)] * leagues.game.many
        self._mixes = [[]] * leagues.game.many
        for number in leagues.game.order:
            state = leagues.game.states[number]
            if state.weights:
                self._values[number], self._mixes[number] = self._best_at(state)
            else:
                self._values[number] = as_ratio(wish[state.draw.name])

    def _best_at(self, state):
        """Return the value of a round, and what both leagues do in it: tuples (word, seen, first one, second one)."""
        mixes = []

        def value_behind(choice):
            return self._values[choice[3]]

        def settle(word, seen, met):
            value, mine, yours = _solved_for(met)
            mixes.append((word, seen, mine, yours))
            return value

        return self._leagues.value_at(state, value_behind, settle), mixes

    def told(self):
        """Return the list of the values at all states."""
        return list(self._values)

    def mixes(self, number):
        """Return tuples (word, seen, what the first league does, what the second one does) for the moments at a state.

        What a league does is a list of tuples (choice, chance), ascending by the choices.
        """
        return self._mixes[number]


def _solved_for(met):
    """Return the value of tuples (choice, choice, value), and what is to be done by the one and by the other one."""
    rows = sorted(set([mine for mine, _, _ in met]))
    columns = sorted(set([yours for _, yours, _ in met]))
    told = {(mine, yours): value for mine, yours, value in met}
    value, row_parts, column_parts = solved([[told[(mine, yours)] for yours in columns] for mine in rows])
    return value, _mix_of(rows, row_parts), _mix_of(columns, column_parts)


def _mix_of(choices, parts):
    """Return the list of tuples (choice, chance) without those that have no chance."""
    return [(choice, part) for choice, part in zip(choices, parts) if part != 0]
