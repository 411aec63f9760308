"""What liars can do in a draw.

A state is a draw that can be come to, with those of its people who are out. A move is what the liars
settle on for a round before they see anything: in an open round nothing, so that there is one move; in
all other rounds their numbers. A move has a list of choices for each row that the honest givers of the
round can give, and a choice is a tuple (given, held, row, number): the numbers that the liars give,
those of them who hold back, the row that counts, and the number of the next state.

Chances are integers in here: a mean at a state is told multiplied by the unit of the state.
"""

from math import lcm

from jointdraws.draws import Round, place_of, rows_of
from jointdraws.groups import all_sets
from jointdraws.reaching import many_fitting, reached_from


class State:
    """A draw that can be come to, with those who are out, and what can be done; an end has no rows and no choices.

    The honest givers and those liars who act are told in the order of the givers.
    """

    def __init__(self, draw, gone, liars):
        givers = [giver for giver in draw.givers if giver[0] not in gone] if isinstance(draw, Round) else []
        self.draw = draw
        self.gone = gone
        self.honest = [giver for giver in givers if giver[0] not in liars]
        self.acting = [giver for giver in givers if giver[0] in liars]
        self.weights = []
        self.base = 1
        self.moves = [[]]
        self.unit = 1
        self.inner = 1
        self.factors = []

    def seens(self):
        """Return the ascending list of the rows that the honest givers can give."""
        return rows_of([len(giver[1]) for giver in self.honest])

    def choices(self):
        """Return the list of all choices of all moves."""
        return [choice for move in self.moves for ways in move for choice in ways]


class Game:
    """All states of a draw, given by its shapes, for some liars.

    Some people may be out at first, liars or not; the number of the state with the first ones of several such tuples
    is 0. Of others than the people who are still to give, it is known only of those who give later whether they are
    out.
    """

    def __init__(self, shapes, liars, outs=((),), later=()):
        self._shapes = shapes
        self._liars = liars
        self._later = later
        self._numbers = [{} for _ in shapes]
        self.many = 0
        self.starts = {}
        for out in outs:
            self.starts[out] = self._number_of(len(shapes) - 1, out)
        self.states = {}
        for place in reversed(range(len(shapes))):
            for gone in list(self._numbers[place]):
                self.states[self._numbers[place][gone]] = self._state_of(place, gone)
        # Draws are met ahead of their further draws, and means are worked out the other way.
        self.order = list(self.states)[::-1]
        for number in self.order:
            self._fit_units(self.states[number])

    def _number_of(self, place, out):
        """Return the number of a state, a new one if it has not been met."""
        people = self._shapes[place].draw.people()
        known = tuple([person for person in out if person in people or person in self._later])
        if known not in self._numbers[place]:
            self._numbers[place][known] = self.many
            self.many = self.many + 1
        return self._numbers[place][known]

    def _state_of(self, place, gone):
        """Return the state of a draw with some people out."""
        shape = self._shapes[place]
        state = State(shape.draw, gone, self._liars)
        if isinstance(shape.draw, Round):
            state.weights, state.base = weights_of(state.honest)
            moves = _moves_of(state)
            state.moves = [[[self._choice_of(shape, gone, way) for way in ways] for ways in move] for move in moves]
        return state

    def _choice_of(self, shape, out, way):
        """Return the choice for a way (given, held, row) to go on."""
        given, held, row = way
        later = out_after(shape.draw, out, held)
        return (given, held, row, self._number_of(shape.nexts[place_of(shape.draw.givers, row)], later))

    def _fit_units(self, state):
        """Set the unit of a state, and the factors by which the means at the next states get a common unit."""
        numbers = sorted(set([choice[3] for choice in state.choices()]))
        for number in numbers:
            state.inner = lcm(state.inner, self.states[number].unit)
        state.factors = [(number, state.inner // self.states[number].unit) for number in numbers]
        state.unit = state.base * state.inner

    def spots(self):
        """Return the dict from all spots that can be come to, by any choices, to the numbers of their states."""
        return reached_from(((), ()), self.next_spots)

    def are_at_spots(self, told, value):
        """Tell whether a value is a dict from just all spots to numbers equal to what is told of their states."""

        def fits(spot, number):
            return spot in value and told[number] == value[spot]

        return isinstance(value, dict) and many_fitting(((), ()), self.next_spots, fits) == len(value)

    def next_spots(self, spot, number):
        """Return the list of the spots, with the numbers of their states, to which choices lead from a spot."""
        path, out = spot
        state = self.states[number]
        choices = state.choices()
        return [((path + (row,), out_after(state.draw, out, held)), after) for _, held, row, after in choices]


def out_after(draw, out, held):
    """Return who is out behind a round in which some people have held back."""
    if draw.kind != "last":
        return out
    return tuple(sorted(out + held))


def weights_of(givers):
    """Return integers in the ratio of the chances of the rows of honest givers, and the sum of them."""
    weights = [1]
    base = 1
    for _, shares, _ in givers:
        common = 1
        for share in shares:
            common = lcm(common, share.bottom)
        tops = [share.top * (common // share.bottom) for share in shares]
        weights = [weight * top for weight in weights for top in tops]
        base = base * common
    return weights, base


def _moves_of(state):
    """Return the moves of a round, with ways (given, held, row) in the place of the choices."""
    draw = state.draw
    names = [giver[0] for giver in state.honest + state.acting]
    givens = rows_of([len(giver[1]) for giver in state.acting])
    helds = [()]
    if draw.kind == "held" or draw.kind == "last":
        helds = sorted(all_sets(sorted([giver[0] for giver in state.acting])))
    if draw.kind == "open":
        return [[_ways_of(draw, names, seen, givens, helds) for seen in state.seens()]]
    return [[_ways_of(draw, names, seen, [given], helds) for seen in state.seens()] for given in givens]


def _ways_of(draw, names, seen, givens, helds):
    """Return the ways (given, held, row) to go on, in ascending order, if the honest givers give some numbers.

    The names are those of the honest givers, and behind them those of the liars who act.
    """
    ways = []
    for given in givens:
        told = dict(zip(names, seen + given))
        for held in helds:
            ways.append((given, held, _row_of(draw.givers, told, held)))
    return ways


def _row_of(givers, told, held):
    """Return the row that counts if people give the numbers they are told with, and some of them hold back."""
    row = []
    for person, _, stand_in in givers:
        row.append(stand_in if person in held else told.get(person, stand_in))
    return tuple(row)
