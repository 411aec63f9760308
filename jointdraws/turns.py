"""Draws of turns: in each round one person gives a number, and everybody sees it."""

from jointdraws.draws import End, Round
from jointdraws.errors import NotTurns
from jointdraws.honest import is_turns
from jointdraws.ratios import Ratio


def need_turns(draw):
    """Raise NotTurns unless a draw is one of turns."""
    if not is_turns(draw):
        raise NotTurns()


def giver_of(turn):
    """Return the person whose turn it is in a round of a draw of turns."""
    return turn.givers[0][0]


def is_turn_of(people, draw):
    """Tell whether a draw of turns begins with a turn of some people."""
    return isinstance(draw, Round) and giver_of(draw) in people


def fair_turn(person, one, other):
    """Return the turn of a person between two draws, each with the chance 1/2."""
    return Round("open", [(person, [Ratio(1, 2), Ratio(1, 2)], 0)], [one, other])


def forced_in(shapes, people, names):
    """Return a list that tells of each shape of a draw of turns whether some people force some names there."""
    told = []
    for shape in shapes:
        ways = [told[place] for place in shape.nexts]
        if isinstance(shape.draw, End):
            told.append(shape.draw.name in names)
        elif giver_of(shape.draw) in people:
            told.append(any(ways))
        else:
            told.append(all(ways))
    return told
