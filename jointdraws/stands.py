"""Seasons: draws that are gone through one after the other, with one budget.

Between two draws all that matters is which draw comes next, who is out, and what is left of the budget.
"""

from jointdraws.games import Game
from jointdraws.ratios import as_ratio
from jointdraws.saving import Saving, most_holds_in
from jointdraws.shapes import shapes_of


class Season:
    """A season for some liars and a budget: for each draw the wish, and the game for all who can be out at first.

    Either all liars who are out are told, or only those who are people of the draw or of later ones.
    """

    def __init__(self, season, liars, budget, all_told):
        self.budget = budget
        self.wishes = [wish for _, wish in season]
        self.games = []
        outs = [()]
        for place, (draw, _) in enumerate(season):
            later = liars if all_told else [person for further, _ in season[place + 1:] for person in further.people()]
            game = Game(shapes_of(draw), liars, outs, later)
            self.games.append(game)
            ahead = {game.states[number].gone: True for number in game.order}
            outs = [out for out in ahead if len(out) <= budget]

    def stands(self):
        """Return the list of all stands that can be come to within the budget, those of earlier draws first.

        All liars who are out must be told.
        """
        found = [(0, (), self.budget)]
        last = found
        for game in self.games[:-1]:
            reached = {}
            for place, out, left in last:
                for gone, rest in _ends_reached(game, game.starts[out], left):
                    reached[(place + 1, gone, rest)] = True
            last = list(reached)
            found = found + last
        return found


def _ends_reached(game, start, budget):
    """Return the list of the tuples (those who are out, what is left) at ends to which choices within a budget lead."""
    met = {(start, budget): True}
    waiting = [(start, budget)]
    reached = {}
    while waiting:
        number, left = waiting.pop()
        state = game.states[number]
        if not state.weights:
            reached[(state.gone, left)] = True
        for choice in state.choices():
            key = (choice[3], left - len(choice[1]))
            if key[1] >= 0 and key not in met:
                met[key] = True
                waiting.append(key)
    return list(reached)


class Prospects:
    """What liars get at the most in a season from each stand on."""

    def __init__(self, season, stake):
        self._season = season
        self._stake = stake
        self._savings = []
        most = 0
        for game in reversed(season.games):
            most = min(season.budget, most + most_holds_in(game))
            self._savings.insert(0, self._saving_in(len(season.games) - 1 - len(self._savings), most))

    def _saving_in(self, place, most):
        """Return the best ways to act in the draw at a place, with at most so many holds; all later ones are known."""
        game = self._season.games[place]
        ends = [number for number in game.order if not game.states[number].weights]
        layers = [{number: self._reward_at(place, game.states[number], left) for number in ends}
                  for left in range(most + 1)]
        saving = Saving(game, self._stake, [reward for layer in layers for reward in layer.values()])
        for rewards in layers:
            saving.add_layer(rewards)
        return saving

    def _reward_at(self, place, state, left):
        """Return what is got at an end of the draw at a place, with what can be got behind it."""
        reward = as_ratio(self._season.wishes[place][state.draw.name])
        starts = self._season.games[place + 1].starts if self._savings else {}
        # If more people are out than the budget has holds, nothing leads there, and it does not matter what is got.
        if state.gone not in starts:
            return reward
        return reward + self._savings[0].worth_left(starts[state.gone], left)

    def worth_from(self, stand):
        """Return what is got from a stand on."""
        place, out, left = stand
        return self._savings[place].worth_left(self._season.games[place].starts[out], left)

    def plan_from(self, stand):
        """Return the plan for the draw of a stand."""
        place, out, left = stand
        return self._savings[place].plan_left(self._season.games[place].starts[out], left)
