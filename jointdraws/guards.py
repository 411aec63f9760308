"""Guards: how a league acts at all its moments, by chances of its own, and what it makes sure of by this."""

from jointdraws.bouts import Duel, Leagues
from jointdraws.checks import are_some_of, is_list
from jointdraws.draws import are_numbers_of
from jointdraws.errors import BadGuard
from jointdraws.games import out_after
from jointdraws.needs import need_leagues, need_stake, need_wish
from jointdraws.ratios import Ratio, is_number, least, total
from jointdraws.reaching import many_fitting, reached_from


def is_guard(draw, first, second, value):
    """Tell whether a value is a guard of the first league."""
    need_leagues(draw, first, second)
    return _is_guard(Leagues(draw, first, second, 0), value)


def made_sure(draw, first, second, wish, guard, *, stake=0):
    """Return the least score that can come if the first league acts by a guard of it."""
    need_leagues(draw, first, second)
    need_wish(draw, wish)
    return _least_score(Leagues(draw, first, second, stake), wish, guard, stake)


def kept_to(draw, first, second, wish, guard, *, stake=0):
    """Return the greatest score that can come if the second league acts by a guard of it."""
    need_leagues(draw, first, second)
    need_wish(draw, wish)
    # The second league wants of the opposite numbers what the first one wants of these.
    opposite = {name: -wish[name] for name in wish}
    return -_least_score(Leagues(draw, second, first, stake), opposite, guard, stake)


def _is_guard(leagues, value):
    """Tell whether a value is a guard of the first league."""
    met = []

    def fits(spot, number):
        state = leagues.game.states[number]
        moments = _moments_at(leagues, spot, state)
        met.extend(moments)
        acting = _acting_of(leagues, state)
        return all([moment in value and _is_mix(value[moment], moment[0], acting) for moment in moments])

    if not isinstance(value, dict) or many_fitting(((), ()), _next_spots_for(leagues), fits) is None:
        return False
    return len(met) == len(value)


def _next_spots_for(leagues):
    """Return the function that tells to which spots the choices at a spot lead, with the numbers of their states.

    Those at which the first league does not matter any more are left out: there it has no moments, but there may
    be far too many of them to look at.
    """

    def next_spots(spot, number):
        kept = []
        for further, after in leagues.game.next_spots(spot, number):
            people = leagues.game.states[after].draw.people()
            if any([person in people and person not in further[1] for person in leagues.first]):
                kept.append((further, after))
        return kept

    return next_spots


def _acting_of(leagues, state):
    """Return the givers of the first league who act in a round."""
    return [giver for giver in state.acting if giver[0] in leagues.first]


def _moments_at(leagues, spot, state):
    """Return the list of the moments of the first league at a spot."""
    path, out = spot
    if not _acting_of(leagues, state):
        return []
    if state.draw.kind == "open":
        return [("give", path, out, seen) for seen in state.seens()]
    moments = [("give", path, out, ())]
    if state.draw.kind != "sealed":
        for numbers in _all_numbers(state):
            moments.append(("hold", path, out, numbers))
    return moments


def _all_numbers(state):
    """Return the list of the rows that the givers of a round can give, with the stand-in for those who are out."""
    rows = [()]
    for person, shares, stand_in in state.draw.givers:
        numbers = [stand_in] if person in state.gone else list(range(len(shares)))
        rows = [row + (number,) for row in rows for number in numbers]
    return rows


def _is_mix(value, word, acting):
    """Tell whether a value is a list of tuples (choice, chance) for a moment with a word at which some givers act."""
    if not is_list(value) or not all([isinstance(item, tuple) and len(item) == 2 for item in value]):
        return False
    for choice, _ in value:
        if word == "give" and not are_numbers_of(acting, choice):
            return False
        if word == "hold" and not _is_hold(choice, [giver[0] for giver in acting]):
            return False
    choices = [choice for choice, _ in value]
    if not all([choices[at] < choices[at + 1] for at in range(len(choices) - 1)]):
        return False
    return _are_chances([part for _, part in value])


def _is_hold(value, people):
    """Tell whether a value is an ascending tuple of some people."""
    return isinstance(value, tuple) and are_some_of(value, people) and list(value) == sorted(value)


def _are_chances(values):
    """Tell whether values are numbers above 0 whose sum is 1."""
    if not all([is_number(part) for part in values]):
        return False
    return all([Ratio(0).below(part) for part in values]) and total(values) == 1


def _least_score(leagues, wish, guard, stake):
    """Return the least score if the first league acts by a guard, behind the errors for the guard and the stake."""
    if not _is_guard(leagues, guard):
        raise BadGuard(guard)
    need_stake(stake)
    # Where the first league does not matter any more, all that counts is what the second one does.
    told = Duel(leagues, wish).told()
    spots = reached_from(((), ()), _next_spots_for(leagues))
    values = {}
    # What is behind a spot must be known ahead of it.
    order = sorted(spots, key=lambda spot: len(spot[0]))
    for here in reversed(order):
        values[here] = _value_by_guard(leagues, here, spots[here], guard, values, told)
    return values[((), ())]


def _value_by_guard(leagues, spot, number, guard, values, told):
    """Return the least score from a spot on, by those behind it, where told has the values of states without them."""
    path, out = spot
    state = leagues.game.states[number]

    def value_behind(choice):
        further = (path + (choice[2],), out_after(state.draw, out, choice[1]))
        return values[further] if further in values else told[choice[3]]

    def settle(word, seen, met):
        mix = {choice: part for choice, part in guard.get((word, path, out, seen), [((), 1)])}
        scores = {}
        for mine, yours, value in met:
            if mine in mix:
                scores[yours] = scores.get(yours, Ratio(0)) + value * mix[mine]
        return least(list(scores.values()))

    if not state.weights:
        return told[number]
    return leagues.value_at(state, value_behind, settle)
