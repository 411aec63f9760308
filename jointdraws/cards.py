"""Draws of fair turns: what sets of people can get in them, and those draws that no other one betters.

The numbers of a card are kept as a tuple of integers: one set after the other, for each of them that for
no first, all multiplied by the unit, which is 2 multiplied with itself as often as the depth says.
"""

from jointdraws.checks import are_names
from jointdraws.draws import End, rounds_of
from jointdraws.errors import BadBounds, BadNames, NotTurns
from jointdraws.groups import all_sets, is_within, sets_up_to
from jointdraws.needs import need_count
from jointdraws.ratios import Ratio, is_number
from jointdraws.shapes import shapes_of
from jointdraws.turns import fair_turn, giver_of, need_turns

ENDS = ("no", "yes")
MOST_PEOPLE = 4
MOST_DEPTHS = (0, 3, 3, 3, 2)


def card(draw, people):
    """Return the card of a draw of fair turns for some people."""
    _need_fair_turns(draw)
    _need_people(people, draw.people())
    return _card_of(draw, people)


def _need_fair_turns(draw):
    """Raise NotTurns unless a draw is one of fair turns."""
    need_turns(draw)
    if not is_within(draw.ends(), ENDS):
        raise NotTurns()
    for turn in rounds_of(draw):
        if [share == Ratio(1, 2) for share in turn.givers[0][1]] != [True, True]:
            raise NotTurns()


def _need_people(value, people):
    """Raise BadNames unless a value is a list of one to four different names, some people among them."""
    if not are_names(value, MOST_PEOPLE) or not is_within(people, value):
        raise BadNames(value)


def _card_of(draw, people):
    """Return the card of a draw of fair turns as a dict."""
    sets = all_sets(sorted(people))
    unit = 1 << draw.depth()
    told = []
    for shape in shapes_of(draw):
        if isinstance(shape.draw, End):
            told.append(_end_numbers(shape.draw.name, sets, unit))
        else:
            one, other = [told[place] for place in shape.nexts]
            told.append(_turn_numbers(giver_of(shape.draw), sets, one, other))
    numbers = [Ratio(number, unit) for number in told[-1]]
    return {chosen: (numbers[2 * at], numbers[2 * at + 1]) for at, chosen in enumerate(sets)}


def _end_numbers(name, sets, unit):
    """Return the numbers of the card of an end."""
    numbers = []
    for _ in sets:
        numbers.extend([unit if name == end else 0 for end in ENDS])
    return tuple(numbers)


def _turn_numbers(person, sets, one, other):
    """Return the numbers of the card of a turn of a person, by those of its two further draws."""
    numbers = []
    for at, chosen in enumerate(sets):
        for place in (2 * at, 2 * at + 1):
            if person in chosen:
                numbers.append(max(one[place], other[place]))
            else:
                # Nothing is lost: at most as many halves are taken as the unit has.
                numbers.append((one[place] + other[place]) // 2)
    return tuple(numbers)


def is_as_good(one, other, people):
    """Tell whether the card of the one draw has no greater number than that of the other draw."""
    mine, yours = _two_cards(one, other, people)
    for chosen in mine:
        if yours[chosen][0].below(mine[chosen][0]) or yours[chosen][1].below(mine[chosen][1]):
            return False
    return True


def is_better(one, other, people):
    """Tell whether the card of the one draw is as good as that of the other draw, and not the same."""
    mine, yours = _two_cards(one, other, people)
    return mine != yours and is_as_good(one, other, people)


def _two_cards(one, other, people):
    """Return the cards of two draws of fair turns for some people."""
    _need_fair_turns(one)
    _need_fair_turns(other)
    _need_people(people, one.people() + other.people())
    return _card_of(one, people), _card_of(other, people)


def best_draws(people, depth):
    """Return a draw of fair turns with at most a depth for each card that no other such draw betters."""
    _need_people_and_depth(people, depth)
    return [draw for _, draw in _best_cards(people, depth)]


def _need_people_and_depth(people, depth):
    """Raise the errors of the functions for some people and a depth."""
    _need_people(people, [])
    need_count(depth, MOST_DEPTHS[len(people)])


def _best_cards(people, depth):
    """Return the ascending list of the cards that no draw betters, as tuples (numbers, draw)."""
    sets = all_sets(sorted(people))
    unit = 1 << depth
    best = {_end_numbers(name, sets, unit): End(name) for name in ENDS}
    for _ in range(depth):
        # Since a better further draw never makes a draw worse, the best ones by now are enough.
        best = _unbettered(_with_turns(sorted(people), sets, best))
    return [(numbers, best[numbers]) for numbers in sorted(best)]


def _with_turns(people, sets, best):
    """Return the dict from the numbers of cards to draws, for some draws and all turns between two of them."""
    found = {numbers: best[numbers] for numbers in best}
    known = sorted(best)
    for at, one in enumerate(known):
        for other in known[:at]:
            for person in people:
                numbers = _turn_numbers(person, sets, one, other)
                if numbers not in found:
                    found[numbers] = fair_turn(person, best[one], best[other])
    return found


def _unbettered(found):
    """Return the dict of those cards that no other one betters."""
    kept = []
    for numbers in sorted(found):
        # What betters a card stands ahead of it.
        if not any([_are_at_most(other, numbers) for other in kept]):
            kept.append(numbers)
    return {numbers: found[numbers] for numbers in kept}


def _are_at_most(some, others):
    """Tell whether no number is greater than the one at the same place of others."""
    return all([number <= other for number, other in zip(some, others)])


def draw_within(people, depth, bounds):
    """Return a draw of fair turns with at most a depth whose card keeps to bounds; None if there is none."""
    _need_people_and_depth(people, depth)
    sets = all_sets(sorted(people))
    if not _are_bounds(bounds, sets):
        raise BadBounds(bounds)
    for numbers, draw in _best_cards(people, depth):
        if _keep_to(numbers, sets, bounds, 1 << depth):
            return draw
    return None


def _are_bounds(value, sets):
    """Tell whether a value is a dict from some of the sets to tuples of two numbers."""
    if not isinstance(value, dict) or not all([chosen in sets for chosen in value]):
        return False
    return all([_is_pair_of_numbers(bound) for bound in value.values()])


def _is_pair_of_numbers(value):
    """Tell whether a value is a tuple of two numbers."""
    return isinstance(value, tuple) and len(value) == 2 and is_number(value[0]) and is_number(value[1])


def _keep_to(numbers, sets, bounds, unit):
    """Tell whether no number of a card is greater than a bound for it."""
    for at, chosen in enumerate(sets):
        if chosen in bounds:
            for number, bound in zip(numbers[2 * at:2 * at + 2], bounds[chosen]):
                if (bound * Ratio(unit)).below(number):
                    return False
    return True


def least_bias(people, depth, most):
    """Return the least bias that a draw can have with at most so many liars, and the first such draw."""
    _need_people_and_depth(people, depth)
    need_count(most, len(people))
    many = len(sets_up_to(sorted(people), most))
    best = None
    for numbers, draw in _best_cards(people, depth):
        bias = max(numbers[:2 * many])
        if best is None or bias < best[0]:
            best = (bias, draw)
    return Ratio(best[0], 1 << depth), best[1]
