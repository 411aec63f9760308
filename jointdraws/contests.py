"""Draws of turns in which some people are selfish: what everybody gets from each turn on.

Draws in which nobody selfish gives are not gone through: there may be far too many paths in them, and all that
matters of them is what everybody gets there if all are honest.

What is got is told by tuples of integers, one for each wish: means multiplied by a unit of the draw, and by one number
for all draws, the size.
"""

from itertools import product
from math import lcm

from jointdraws.checks import is_whole
from jointdraws.draws import End
from jointdraws.games import weights_of
from jointdraws.ratios import Ratio, as_ratio
from jointdraws.shapes import shapes_of
from jointdraws.turns import giver_of, is_turn_of


class Node:
    """A draw that can be come to, with its path, the places of the further nodes, and what is got if all are honest.

    Without further nodes nobody selfish gives in the draw. What is got behind a further node is multiplied by its
    scale: at the turn of an honest person all of that is added, at that of a selfish one there is just one of them.
    """

    def __init__(self, gone, draw, honest, scales):
        self.gone = gone
        self.draw = draw
        self.honest = honest
        self.scales = scales
        self.nexts = []


class Contest:
    """A draw of turns with some selfish people, and the wishes by which it is told what is got."""

    def __init__(self, draw, selfish, wishes):
        self._shapes = shapes_of(draw)
        self._selfish = selfish
        self._size = 1
        for number in [each for wish in wishes for each in wish.values()]:
            self._size = lcm(self._size, as_ratio(number).bottom)
        self._units = []
        self._scales = []
        self._honest = []
        for shape in self._shapes:
            unit, scales = self._unit_of(shape)
            self._units.append(unit)
            self._scales.append(scales)
            if isinstance(shape.draw, End):
                self._honest.append(tuple([(wish[shape.draw.name] * Ratio(self._size)).top for wish in wishes]))
            else:
                # Where somebody selfish gives, or will give, this tells nothing, and nobody asks for it.
                self._honest.append(_added([self._honest[place] for place in shape.nexts], scales))

    def _unit_of(self, shape):
        """Return the unit of a draw, and the scales of its further draws."""
        inner = 1
        for place in shape.nexts:
            inner = lcm(inner, self._units[place])
        scales = [inner // self._units[place] for place in shape.nexts]
        if isinstance(shape.draw, End) or is_turn_of(self._selfish, shape.draw):
            return inner, scales
        weights, base = weights_of(shape.draw.givers)
        return inner * base, [weight * scale for weight, scale in zip(weights, scales)]

    def means(self, got):
        """Return the list of the means, as Ratios, of what is got in the whole draw."""
        return [Ratio(number, self._units[-1] * self._size) for number in got]

    def _has_turns(self, draw):
        """Tell whether somebody selfish gives in a draw."""
        return any([person in self._selfish for person in draw.people()])

    def many_habits(self):
        """Return the number of all habits."""
        counts = []
        for shape in self._shapes:
            many = len(shape.nexts) if is_turn_of(self._selfish, shape.draw) else 1
            for place in shape.nexts:
                many = many * counts[place]
            counts.append(many)
        return counts[-1]

    def is_habit(self, value):
        """Tell whether a value is a habit."""
        if not isinstance(value, dict):
            return False
        many = 0
        waiting = [((), len(self._shapes) - 1)]
        while waiting:
            path, place = waiting.pop()
            shape = self._shapes[place]
            if is_turn_of(self._selfish, shape.draw):
                number = value.get(path)
                if not is_whole(number) or not 0 <= number < len(shape.nexts):
                    return False
                many = many + 1
            for number, further in enumerate(shape.nexts):
                if self._has_turns(self._shapes[further].draw):
                    waiting.append((path + ((number,),), further))
        return many == len(value)

    def nodes(self):
        """Return the list of the nodes, ascending by their paths."""
        nodes = []
        waiting = [((), len(self._shapes) - 1, None)]
        while waiting:
            path, place, before = waiting.pop()
            shape = self._shapes[place]
            if before is not None:
                nodes[before].nexts.append(len(nodes))
            if self._has_turns(shape.draw):
                for number in reversed(range(len(shape.nexts))):
                    waiting.append((path + ((number,),), shape.nexts[number], len(nodes)))
            nodes.append(Node(path, shape.draw, self._honest[place], self._scales[place]))
        return nodes

    def is_selfish(self, node):
        """Tell whether it is the turn of somebody selfish at a node."""
        return is_turn_of(self._selfish, node.draw)


def _added(parts, scales):
    """Return the sum of what is got in some draws, with their scales."""
    scaled = [_scaled(part, scale) for part, scale in zip(parts, scales)]
    return tuple([sum(numbers) for numbers in zip(*scaled)])


def _scaled(got, scale):
    """Return what is got, multiplied by a scale."""
    return tuple([number * scale for number in got])


def got_by_habit(contest, nodes, habit):
    """Return the list of what is got from each node on if a habit is kept."""
    got = [node.honest for node in nodes]
    for at in reversed(range(len(nodes))):
        node = nodes[at]
        if contest.is_selfish(node):
            number = habit[node.gone]
            got[at] = _scaled(got[node.nexts[number]], node.scales[number])
        elif node.nexts:
            got[at] = _added([got[place] for place in node.nexts], node.scales)
    return got


def options_at(node, got, at):
    """Return the list of what the wish at a place has for each of the numbers at a node, if it is known what is got."""
    return [got[place][at] * scale for place, scale in zip(node.nexts, node.scales)]


def settled_ways(contest, nodes, people):
    """Return the list of tuples (numbers, what is got) of all settled habits, ascending by the numbers.

    The numbers of a habit are told in the order of the paths; the people are those of the wishes, in their order.
    """
    ways = [[((), node.honest)] for node in nodes]
    for at in reversed(range(len(nodes))):
        node = nodes[at]
        if node.nexts:
            rows = _rows_of_ways([ways[place] for place in node.nexts])
            if contest.is_selfish(node):
                ways[at] = _best_turns(node, rows, people.index(giver_of(node.draw)))
            else:
                ways[at] = _mean_ways(node, rows)
    return sorted(ways[0], key=lambda way: way[0])


def _rows_of_ways(ways):
    """Return the list of all rows of ways, one out of each list."""
    rows = [()]
    for some in ways:
        rows = [row + (way,) for row, way in product(rows, some)]
    return rows


def _mean_ways(node, rows):
    """Return the ways at the turn of an honest person, for rows of ways behind the numbers."""
    return [(_joined_in(row), _added([got for _, got in row], node.scales)) for row in rows]


def _joined_in(row):
    """Return what the ways of a row begin with, tuples, put together."""
    return tuple([part for parts, _ in row for part in parts])


def _best_turns(node, rows, at):
    """Return the ways at the turn of the person at a place, for rows of ways behind each of the numbers."""
    found = []
    for row in rows:
        options = [_scaled(got, scale) for (_, got), scale in zip(row, node.scales)]
        best = max([option[at] for option in options])
        for number, option in enumerate(options):
            if option[at] == best:
                found.append(((number,) + _joined_in(row), option))
    return found


def changed_ways(contest, nodes, habit, people, places):
    """Return tuples (changes, what is got) for what can come if some people give other numbers than a habit tells.

    The changes are a tuple of tuples (path, number); turns that are not come to are left as they are. Left out are
    ways by which at none of some places more is got than by another one.
    """
    ways = [[((), node.honest)] for node in nodes]
    for at in reversed(range(len(nodes))):
        node = nodes[at]
        if contest.is_selfish(node):
            turned = []
            for number, scale in enumerate(node.scales):
                if giver_of(node.draw) in people or number == habit[node.gone]:
                    turned.extend([(((node.gone, number),) + changes, _scaled(got, scale))
                                   for changes, got in ways[node.nexts[number]]])
            ways[at] = _without_lesser(turned, places)
        elif node.nexts:
            rows = _rows_of_ways([ways[place] for place in node.nexts])
            ways[at] = _without_lesser(_mean_ways(node, rows), places)
    return ways[0]


def _without_lesser(ways, places):
    """Return those ways beside which there is no other one by which at all of some places at least as much is got."""
    kept = []
    for way in ways:
        if not any([_is_no_more(way[1], other[1], places) for other in kept]):
            kept = [other for other in kept if not _is_no_more(other[1], way[1], places)] + [way]
    return kept


def _is_no_more(got, other, places):
    """Tell whether at none of some places more is got than by another way."""
    return all([got[at] <= other[at] for at in places])


def gets_more(got, before, places):
    """Tell whether at all of some places more is got than before."""
    return all([before[at] < got[at] for at in places])
