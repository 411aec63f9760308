"""Draws of turns in which some people are selfish: what everybody gets from each turn on.

Draws in which nobody selfish gives are not gone through: there may be far too many paths in them, and all that
matters of them is what everybody gets there if all are honest.
"""

from itertools import product

from jointdraws.checks import is_whole
from jointdraws.draws import End
from jointdraws.ratios import as_ratio, total
from jointdraws.shapes import shapes_of
from jointdraws.turns import giver_of, is_turn_of


class Node:
    """A draw that can be come to, with its path, what is got if all are honest, and the places of the further nodes.

    Without further nodes nobody selfish gives in the draw.
    """

    def __init__(self, gone, draw, honest):
        self.gone = gone
        self.draw = draw
        self.honest = honest
        self.nexts = []


class Contest:
    """A draw of turns with some selfish people, and the wishes by which it is told what is got, as a list."""

    def __init__(self, draw, selfish, wishes):
        self._shapes = shapes_of(draw)
        self._selfish = selfish
        self._honest = []
        for shape in self._shapes:
            if isinstance(shape.draw, End):
                self._honest.append(tuple([as_ratio(wish[shape.draw.name]) for wish in wishes]))
            else:
                self._honest.append(mean_of(shape.draw, [self._honest[place] for place in shape.nexts]))

    def _has_turns(self, draw):
        """Tell whether somebody selfish gives in a draw."""
        return any([person in self._selfish for person in draw.people()])

    def many_habits(self):
        """Return the number of all habits."""
        counts = []
        for shape in self._shapes:
            many = len(shape.nexts) if is_turn_of(self._selfish, shape.draw) else 1
            for place in shape.nexts:
                many = many * counts[place]
            counts.append(many)
        return counts[-1]

    def is_habit(self, value):
        """Tell whether a value is a habit."""
        if not isinstance(value, dict):
            return False
        many = 0
        waiting = [((), len(self._shapes) - 1)]
        while waiting:
            path, place = waiting.pop()
            shape = self._shapes[place]
            if is_turn_of(self._selfish, shape.draw):
                number = value.get(path)
                if not is_whole(number) or not 0 <= number < len(shape.nexts):
                    return False
                many = many + 1
            for number, further in enumerate(shape.nexts):
                if self._has_turns(self._shapes[further].draw):
                    waiting.append((path + ((number,),), further))
        return many == len(value)

    def nodes(self):
        """Return the list of the nodes, ascending by their paths."""
        nodes = []
        waiting = [((), len(self._shapes) - 1, None)]
        while waiting:
            path, place, before = waiting.pop()
            shape = self._shapes[place]
            if before is not None:
                nodes[before].nexts.append(len(nodes))
            if self._has_turns(shape.draw):
                for number in reversed(range(len(shape.nexts))):
                    waiting.append((path + ((number,),), shape.nexts[number], len(nodes)))
            nodes.append(Node(path, shape.draw, self._honest[place]))
        return nodes

    def is_selfish(self, node):
        """Tell whether it is the turn of somebody selfish at a node."""
        return is_turn_of(self._selfish, node.draw)


def mean_of(turn, parts):
    """Return what is got at the turn of an honest person, by what is got behind it: a tuple, a number for each wish."""
    shares = turn.givers[0][1]
    weighed = [[number * share for number in part] for part, share in zip(parts, shares)]
    return tuple([total(list(numbers)) for numbers in zip(*weighed)])


def got_by_habit(contest, nodes, habit):
    """Return the list of what is got from each node on if a habit is kept."""
    got = [node.honest for node in nodes]
    for at in reversed(range(len(nodes))):
        node = nodes[at]
        if contest.is_selfish(node):
            got[at] = got[node.nexts[habit[node.gone]]]
        elif node.nexts:
            got[at] = mean_of(node.draw, [got[place] for place in node.nexts])
    return got


def settled_ways(contest, nodes, people):
    """Return the list of tuples (numbers, what is got) of all settled habits, ascending by the numbers.

    The numbers of a habit are told in the order of the paths; the people are those of the wishes, in their order.
    """
    ways = [[((), node.honest)] for node in nodes]
    for at in reversed(range(len(nodes))):
        node = nodes[at]
        if node.nexts:
            rows = _rows_of_ways([ways[place] for place in node.nexts])
            if contest.is_selfish(node):
                ways[at] = _best_turns(rows, people.index(giver_of(node.draw)))
            else:
                ways[at] = _mean_ways(node.draw, rows)
    return sorted(ways[0], key=lambda way: way[0])


def _rows_of_ways(ways):
    """Return the list of all rows of ways, one out of each list."""
    rows = [()]
    for some in ways:
        rows = [row + (way,) for row, way in product(rows, some)]
    return rows


def _mean_ways(turn, rows):
    """Return the ways at the turn of an honest person, for rows of ways behind the numbers."""
    return [(_joined_in(row), mean_of(turn, [got for _, got in row])) for row in rows]


def _joined_in(row):
    """Return what the ways of a row begin with, tuples, put together."""
    return tuple([part for parts, _ in row for part in parts])


def _best_turns(rows, at):
    """Return the ways at the turn of the person at a place, for rows of ways behind each of the numbers."""
    found = []
    for row in rows:
        for number, (_, got) in enumerate(row):
            if not any([got[at].below(other[at]) for _, other in row]):
                found.append(((number,) + _joined_in(row), got))
    return found


def changed_ways(contest, nodes, habit, people):
    """Return tuples (changes, what is got) for all that comes if some people give other numbers than a habit tells.

    The changes are a tuple of tuples (path, number); turns that are not come to are left as they are.
    """
    ways = [[((), node.honest)] for node in nodes]
    for at in reversed(range(len(nodes))):
        node = nodes[at]
        if contest.is_selfish(node):
            if giver_of(node.draw) in people:
                ways[at] = [(((node.gone, number),) + changes, got)
                            for number, place in enumerate(node.nexts) for changes, got in ways[place]]
            else:
                ways[at] = ways[node.nexts[habit[node.gone]]]
        elif node.nexts:
            ways[at] = _mean_ways(node.draw, _rows_of_ways([ways[place] for place in node.nexts]))
    return ways[0]


def gets_more(got, before, places):
    """Tell whether at all of some places more is got than before."""
    return all([before[at].below(got[at]) for at in places])
