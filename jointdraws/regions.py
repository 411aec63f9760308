"""What liars can reach: the chances of the names of ends that they can bring about, told by the corners.

There are at most three names. The chance of the first one and that of the second one are the two
coordinates of a point; they are integers, multiplied by the unit of the game.
"""

from math import lcm

from jointdraws.acting import Acting
from jointdraws.games import Game
from jointdraws.hulls import along, barring, blend, hull, right_of
from jointdraws.ratios import Ratio
from jointdraws.shapes import shapes_of


class Region:
    """All chances that liars can reach: the corners, counterclockwise, with a plan for each."""

    def __init__(self, draw, liars):
        self._game = Game(shapes_of(draw), liars)
        self._names = draw.ends()
        self._unit = self._game.states[0].unit
        self._plans = {}
        self._find_corners()
        self._corners = hull(sorted(self._plans))

    def _find_corners(self):
        """Find points with plans, among them all corners."""
        left = self._farthest((-1, 0))
        right = self._farthest((1, 0))
        if left[0] == right[0]:
            left = self._farthest((0, -1))
            right = self._farthest((0, 1))
        pairs = [(left, right), (right, left)]
        while pairs:
            start, end = pairs.pop()
            outwards = right_of(start, end)
            point = self._farthest(outwards)
            if along(outwards, start) < along(outwards, point):
                pairs.append((start, point))
                pairs.append((point, end))

    def _farthest(self, direction):
        """Return a point that lies farthest in a direction; its plan is kept."""
        acting = Acting(self._game, _wish_towards(self._names, direction), 0)
        point = tuple([acting.part_of(name) for name in self._names[:2]] + [0])[:2]
        if point not in self._plans:
            self._plans[point] = acting.plan()
        return point

    def corners(self):
        """Return the ascending list of the corners: tuples (chances, plan)."""
        return [(self._chances_at(point), self._plans[point]) for point in sorted(self._corners)]

    def chances(self):
        """Return the ascending list of the chances at the corners."""
        return [self._chances_at(point) for point in sorted(self._corners)]

    def _chances_at(self, point):
        """Return the tuple of the chances of all names at a point."""
        parts = [point[0], point[1], self._unit - point[0] - point[1]]
        return tuple([Ratio(part, self._unit) for part in parts[:len(self._names)]])

    def barring_wish(self, chances):
        """Return a wish whose mean by some chances is above the worth; None if the chances can be reached."""
        corners, point = self._on_one_scale(chances)
        direction = barring(corners, point)
        return None if direction is None else _wish_towards(self._names, direction)

    def mix(self, chances):
        """Return tuples (chance, plan) by which some chances are reached; None if they cannot be."""
        corners, point = self._on_one_scale(chances)
        if barring(corners, point) is not None:
            return None
        weights = blend(corners, point)
        whole = sum([weight for _, weight in weights])
        return [(Ratio(weight, whole), self._plans[self._corners[place]]) for place, weight in weights if weight > 0]

    def _on_one_scale(self, chances):
        """Return the corners, and the point with some chances, multiplied by a number so that all are integers."""
        unit = self._unit
        for chance in chances:
            unit = lcm(unit, chance.bottom)
        factor = unit // self._unit
        corners = [(point[0] * factor, point[1] * factor) for point in self._corners]
        numbers = [(chance * unit).top for chance in chances] + [0]
        return corners, (numbers[0], numbers[1])


def _wish_towards(names, direction):
    """Return the wish that is as great as a point lies far in a direction."""
    numbers = list(direction) + [0]
    return {name: Ratio(number) for name, number in zip(names, numbers)}
