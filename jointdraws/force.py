"""Who can force which ends in draws of turns."""

from jointdraws.checks import are_names, are_some_of, is_list, is_whole
from jointdraws.diagrams import Diagrams
from jointdraws.draws import End, parts_of
from jointdraws.errors import BadFamily, BadNames
from jointdraws.groups import all_sets, cheapest_of, is_within, least_of
from jointdraws.needs import need_liars, need_like_ends, need_names, need_prices
from jointdraws.shapes import shapes_of
from jointdraws.turns import fair_turn, forced_in, giver_of, is_turn_of, need_turns

MOST_PEOPLE = 6


def forces(draw, people, names):
    """Tell whether some people can bring it about, whatever the others give, that one of some names comes."""
    _need_sides(draw, people, names)
    return forced_in(shapes_of(draw), people, names)[-1]


def _need_sides(draw, people, names):
    """Raise the errors of the functions for a draw of turns, some people and some names."""
    need_turns(draw)
    need_liars(draw, people)
    need_names(draw, names)


def strategy(draw, people, names):
    """Return a strategy of some people for some names, None if there is none."""
    _need_sides(draw, people, names)
    shapes = shapes_of(draw)
    forced = forced_in(shapes, people, names)
    if not forced[-1]:
        return None
    told = {}
    waiting = [((), len(shapes) - 1)]
    while waiting:
        path, place = waiting.pop()
        nexts = shapes[place].nexts
        numbers = list(range(len(nexts)))
        if is_turn_of(people, shapes[place].draw):
            numbers = [number for number in numbers if forced[nexts[number]]][:1]
            told[path] = numbers[0]
        for number in numbers:
            if _have_turns(people, shapes[nexts[number]].draw):
                waiting.append((path + ((number,),), nexts[number]))
    return told


def _have_turns(people, draw):
    """Tell whether there are turns of some people; where there are none, there may be far too many paths to go."""
    return any([person in people for person in draw.people()])


def is_strategy(draw, people, names, value):
    """Tell whether a value is a strategy of some people for some names."""
    _need_sides(draw, people, names)
    if not isinstance(value, dict):
        return False
    many = 0
    waiting = [((), draw)]
    while waiting:
        path, here = waiting.pop()
        if not _have_turns(people, here):
            if not is_within(here.ends(), names):
                return False
            continue
        numbers = list(range(len(here.draws)))
        if giver_of(here) in people:
            number = value.get(path)
            if not is_whole(number) or number not in numbers:
                return False
            numbers = [number]
            many = many + 1
        for number in numbers:
            waiting.append((path + ((number,),), here.draws[number]))
    return many == len(value)


def forcing_sets(draw, names):
    """Return the list of the least sets of people that force some names."""
    need_turns(draw)
    need_names(draw, names)
    return least_of(_all_forcing_sets(draw, names))


def _all_forcing_sets(draw, names):
    """Return the list of all sets of people that force some names."""
    shapes = shapes_of(draw)
    return [people for people in all_sets(draw.people()) if forced_in(shapes, people, names)[-1]]


def cheapest_force(draw, names, prices):
    """Return the least sum of prices of people who force some names, and the first such people; None if nobody does."""
    need_turns(draw)
    need_names(draw, names)
    need_prices(draw, prices)
    return cheapest_of(_all_forcing_sets(draw, names), prices)


def family_draw(people, sets):
    """Return a draw of turns in which those people force yes among whom are all of one of some sets."""
    if not are_names(people, MOST_PEOPLE):
        raise BadNames(people)
    if not is_list(sets) or not all([are_some_of(chosen, people) for chosen in sets]):
        raise BadFamily(sets)
    return _family_draw(sorted(people), sets)


def _family_draw(people, sets):
    """Return the draw for some sets of people: each of them has at most one turn, in the order of the people."""
    if not sets:
        return End("no")
    if not all([len(chosen) > 0 for chosen in sets]):
        return End("yes")
    person = people[0]
    # Without this person only sets without them are of use; with them it is as if they were in no set.
    against = _family_draw(people[1:], [chosen for chosen in sets if person not in chosen])
    beside = _family_draw(people[1:], [[one for one in chosen if one != person] for chosen in sets])
    return beside if against == beside else fair_turn(person, against, beside)


def alike_in_force(one, other):
    """Tell whether in two draws all people force the same names."""
    return parting_force(one, other) is None


def parting_force(one, other):
    """Return people and names that these people force in just one of two draws; None if there are none."""
    need_turns(one)
    need_turns(other)
    need_like_ends(one, other)
    diagrams = Diagrams(_names_in_text(one))
    mine = _forced_by_all(one, diagrams)
    yours = _forced_by_all(other, diagrams)
    for people in all_sets(sorted(set(one.people() + other.people()))):
        forced = mine[_those_in(people, one)]
        beside = yours[_those_in(people, other)]
        if forced != beside:
            return people, diagrams.set_within(forced, beside)
    return None


def _names_in_text(draw):
    """Return the list of the names of the ends in the order in which the text tells them first.

    Names of the same round stand side by side in it, which keeps diagrams small.
    """
    names = []
    for here in parts_of(draw):
        if isinstance(here, End) and here.name not in names:
            names.append(here.name)
    return names


def _those_in(people, draw):
    """Return those of some people who are people of a draw."""
    there = draw.people()
    return tuple([person for person in people if person in there])


def _forced_by_all(draw, diagrams):
    """Return the dict from all sets of people to the families of the sets of names that they force."""
    shapes = shapes_of(draw)
    return {people: _forced_by(shapes, people, diagrams) for people in all_sets(draw.people())}


def _forced_by(shapes, people, diagrams):
    """Return the family of the sets of names that some people force."""
    told = []
    for shape in shapes:
        ways = [told[place] for place in shape.nexts]
        if isinstance(shape.draw, End):
            told.append(diagrams.with_name(shape.draw.name))
        elif giver_of(shape.draw) in people:
            told.append(diagrams.in_some(ways))
        else:
            told.append(diagrams.in_all(ways))
    return told[-1]
