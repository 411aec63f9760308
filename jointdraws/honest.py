"""What comes of draws if all people are honest."""

from jointdraws.checks import has_just
from jointdraws.draws import End, Round, rounds_of
from jointdraws.errors import BadWish, NoEnd, NoPerson
from jointdraws.ratios import Ratio, is_number, total


def chance(draw, path):
    """Return the chance of a path if all are honest."""
    # Asked for its error only: the path is looked at as a whole before it is gone.
    draw.at(path)
    part = Ratio(1)
    here = draw
    for row in path:
        part = part * _row_chance(here, row)
        here = here.at((row,))
    return part


def _row_chance(draw, row):
    """Return the chance of a row of a round if all givers are honest."""
    part = Ratio(1)
    for giver, number in zip(draw.givers, row):
        part = part * giver[1][number]
    return part


def _whole_ways(draw):
    """Return the whole paths in ascending order, as tuples (path, name of the end, chance)."""
    ways = []
    waiting = [((), Ratio(1), draw)]
    while waiting:
        path, part, here = waiting.pop()
        if isinstance(here, End):
            ways.append((path, here.name, part))
        else:
            steps = list(zip(here.rows(), here.draws))
            for row, further in reversed(steps):
                waiting.append((path + (row,), part * _row_chance(here, row), further))
    return ways


def honest_shares(draw):
    """Return the dict from the names of the ends to their chances if all are honest."""
    shares = {name: Ratio(0) for name in draw.ends()}
    for _, name, part in _whole_ways(draw):
        shares[name] = shares[name] + part
    return shares


def is_wish(draw, value):
    """Tell whether a value is a wish for a draw."""
    return has_just(value, draw.ends()) and all([is_number(number) for number in value.values()])


def honest_mean(draw, wish):
    """Return the mean of a wish if all are honest."""
    if not is_wish(draw, wish):
        raise BadWish(wish)
    shares = honest_shares(draw)
    return total([shares[name] * wish[name] for name in shares])


def told_back(draw, name):
    """Return the whole paths to ends with a name, with their chances if it is known that one was gone."""
    if name not in draw.ends():
        raise NoEnd(name)
    ways = [(path, part) for path, reached, part in _whole_ways(draw) if reached == name]
    whole = total([part for path, part in ways])
    return [(path, part.over(whole)) for path, part in ways]


def numbers_back(draw, person, name):
    """Return the chances that a person gave 0, 1, .. in the first round if it is known which name came."""
    givers = draw.givers if isinstance(draw, Round) else ()
    people = [giver[0] for giver in givers]
    if person not in people:
        raise NoPerson(person)
    place = people.index(person)
    parts = [Ratio(0) for _ in givers[place][1]]
    for path, part in told_back(draw, name):
        number = path[0][place]
        parts[number] = parts[number] + part
    return parts


def is_turns(draw):
    """Tell whether each round is an open one with one giver."""
    return all([turn.kind == "open" and len(turn.givers) == 1 for turn in rounds_of(draw)])


def is_even(draw):
    """Tell whether all names of ends have the same chance if all are honest."""
    parts = list(honest_shares(draw).values())
    return all([part == parts[0] for part in parts])


def numbers_given(draw):
    """Return the dict from the people to the greatest number of rounds on a path in which they give."""
    most = {person: 0 for person in draw.people()}
    waiting = [(draw, {})]
    while waiting:
        here, before = waiting.pop()
        if isinstance(here, Round):
            counts = dict(before)
            for person, _, _ in here.givers:
                counts[person] = counts.get(person, 0) + 1
                most[person] = max(most[person], counts[person])
            for further in here.draws:
                waiting.append((further, counts))
    return most
