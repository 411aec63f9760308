"""What comes of draws if all people are honest."""

from jointdraws.checks import has_just
from jointdraws.draws import End, further_of, givers_of, rounds_of
from jointdraws.errors import BadWish, NoEnd, NoPerson
from jointdraws.ratios import Ratio, is_number, total
from jointdraws.shapes import shapes_of


def chance(draw, path):
    """Return the chance of a path if all are honest."""
    # Asked for its error only: the path is looked at as a whole before it is gone.
    draw.at(path)
    part = Ratio(1)
    here = draw
    for row in path:
        part = part * _row_chance(here, row)
        here = here.at((row,))
    return part


def _row_chance(draw, row):
    """Return the chance of a row of a round if all givers are honest."""
    part = Ratio(1)
    for giver, number in zip(draw.givers, row):
        part = part * giver[1][number]
    return part


def honest_shares(draw):
    """Return the dict from the names of the ends to their chances if all are honest."""
    shapes = shapes_of(draw)
    shares = {name: Ratio(0) for name in draw.ends()}
    reached = [Ratio(0) for _ in shapes]
    reached[-1] = Ratio(1)
    # Further draws stand ahead of the draw, so from the last one on all ways to a draw are known.
    for place in reversed(range(len(shapes))):
        here = shapes[place].draw
        if isinstance(here, End):
            shares[here.name] = reached[place]
        for row, further in zip(here.rows(), shapes[place].nexts):
            reached[further] = reached[further] + reached[place] * _row_chance(here, row)
    return shares


def is_wish(draw, value):
    """Tell whether a value is a wish for a draw."""
    return has_just(value, draw.ends()) and all([is_number(number) for number in value.values()])


def honest_mean(draw, wish):
    """Return the mean of a wish if all are honest."""
    if not is_wish(draw, wish):
        raise BadWish(wish)
    shares = honest_shares(draw)
    return total([shares[name] * wish[name] for name in shares])


def told_back(draw, name):
    """Return the whole paths to ends with a name, with their chances if it is known that one was gone."""
    if name not in draw.ends():
        raise NoEnd(name)
    whole = honest_shares(draw)[name]
    ways = []
    waiting = [((), Ratio(1), draw)]
    while waiting:
        path, part, here = waiting.pop()
        if isinstance(here, End):
            ways.append((path, part.over(whole)))
        steps = list(zip(here.rows(), further_of(here)))
        for row, further in reversed(steps):
            # There may be far more paths than those that lead to the name.
            if name in further.ends():
                waiting.append((path + (row,), part * _row_chance(here, row), further))
    return ways


def numbers_back(draw, person, name):
    """Return the chances that a person gave 0, 1, .. in the first round if it is known which name came."""
    people = givers_of(draw)
    if person not in people:
        raise NoPerson(person)
    if name not in draw.ends():
        raise NoEnd(name)
    place = people.index(person)
    parts = [Ratio(0) for _ in draw.givers[place][1]]
    for row, further in zip(draw.rows(), draw.draws):
        if name in further.ends():
            number = row[place]
            parts[number] = parts[number] + _row_chance(draw, row) * honest_shares(further)[name]
    whole = total(parts)
    return [part.over(whole) for part in parts]


def is_turns(draw):
    """Tell whether each round is an open one with one giver."""
    return all([turn.kind == "open" and len(turn.givers) == 1 for turn in rounds_of(draw)])


def is_even(draw):
    """Tell whether all names of ends have the same chance if all are honest."""
    parts = list(honest_shares(draw).values())
    return all([part == parts[0] for part in parts])


def numbers_given(draw):
    """Return the dict from the people to the greatest number of rounds on a path in which they give."""
    told = []
    for shape in shapes_of(draw):
        most = {person: 0 for person in shape.draw.people()}
        for place in shape.nexts:
            for person in told[place]:
                most[person] = max(most[person], told[place][person])
        for person in givers_of(shape.draw):
            most[person] = most[person] + 1
        told.append(most)
    return told[-1]
