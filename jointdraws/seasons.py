"""Seasons: one to four draws that are gone through one after the other, with one budget."""

from math import lcm

from jointdraws.checks import LETTERS, are_some_of, has_just, is_list
from jointdraws.draws import Draw, End, count_paths
from jointdraws.errors import BadLiars, BadPlans, BadSeason, TooMany
from jointdraws.games import Game
from jointdraws.honest import is_wish
from jointdraws.needs import need_budget, need_stake
from jointdraws.ratios import Ratio, total
from jointdraws.saving import saving_within
from jointdraws.shapes import rebuilt, same_round, shapes_of
from jointdraws.stands import Prospects, Season
from jointdraws.walks import walk_of

MOST_DRAWS = 4
MOST_PATHS = 4096


def season_worth(season, liars, budget, *, stake=0):
    """Return the greatest mean of what liars get in a season within a budget."""
    _need_all(season, liars, budget, stake)
    return Prospects(Season(season, liars, budget, False), stake).worth_from((0, (), budget))


def _need_all(season, liars, budget, stake):
    """Raise the errors of the functions for a season, liars, a budget and a stake."""
    _need_season(season)
    _need_liars(season, liars)
    need_budget(budget)
    need_stake(stake)


def _need_season(value):
    """Raise BadSeason unless a value is a season."""
    if not is_list(value) or not 1 <= len(value) <= MOST_DRAWS:
        raise BadSeason(value)
    if not all([isinstance(item, tuple) and len(item) == 2 for item in value]):
        raise BadSeason(value)
    if not all([isinstance(draw, Draw) and is_wish(draw, wish) for draw, wish in value]):
        raise BadSeason(value)


def _need_liars(season, value):
    """Raise BadLiars unless a value is a list of different people of a season."""
    people = [person for draw, _ in season for person in draw.people()]
    if not are_some_of(value, people):
        raise BadLiars(value)


def season_plans(season, liars, budget, *, stake=0):
    """Return plans for a season by which liars get the most, a plan for each stand."""
    _need_all(season, liars, budget, stake)
    told = Season(season, liars, budget, True)
    prospects = Prospects(told, stake)
    return {stand: prospects.plan_from(stand) for stand in told.stands()}


def season_score(season, liars, budget, plans, *, stake=0):
    """Return the mean of what liars get by plans for a season."""
    _need_season(season)
    _need_liars(season, liars)
    need_budget(budget)
    told = Season(season, liars, budget, True)
    stands = told.stands()
    if not has_just(plans, stands):
        raise BadPlans(plans)
    walks = {}
    for stand in stands:
        place, out, left = stand
        walk = walk_of(told.games[place], plans[stand], told.games[place].starts[out])
        if walk is None or walk.most_held() > left:
            raise BadPlans(plans)
        walks[stand] = walk
    need_stake(stake)
    return _score_of(told, stands, walks, stake)


def _score_of(season, stands, walks, stake):
    """Return the mean of what is got from the first stand on, if the walks of the plans for all stands are told."""
    scores = {}
    # The stands of later draws come later in their list.
    for stand in reversed(stands):
        place, _, left = stand
        parts = []
        for number, held, chance in walks[stand].ends():
            state = season.games[place].states[number]
            then = scores.get((place + 1, state.gone, left - held), 0)
            parts.append((season.wishes[place][state.draw.name] - held * stake + then) * chance)
        scores[stand] = total(parts)
    return scores[stands[0]]


def joined(season):
    """Return the draw in which the draws of a season come one after the other, and a wish with the sums of numbers."""
    _need_season(season)
    count = 1
    for draw, _ in season:
        count = count * count_paths(draw)
    if count > MOST_PATHS:
        raise TooMany(count)
    rows = [()]
    for draw, _ in season:
        rows = [row + (name,) for row in rows for name in draw.ends()]
    then = {row: End(_name_at(at)) for at, row in enumerate(rows)}
    wish = {}
    for at, row in enumerate(rows):
        wish[_name_at(at)] = total([one[name] for (_, one), name in zip(season, row)])
    for draw, _ in reversed(season):
        shapes = shapes_of(draw)
        before = {row[:-1]: True for row in then}
        then = {row: _led_on(shapes, row, then) for row in before}
    return then[()], wish


def _led_on(shapes, came, then):
    """Return the draw behind some names that came, each end of which leads to what comes then."""

    def new_end(end):
        return then[came + (end.name,)]

    return rebuilt(shapes, new_end, same_round)


def _name_at(place):
    """Return the name at a place in the row a, b, .. z, aa, ab and so on."""
    name = ""
    left = place + 1
    while left > 0:
        left, at = divmod(left - 1, len(LETTERS))
        name = LETTERS[at] + name
    return name


def split(season, liars, budget, *, stake=0):
    """Return the first budgets for the single draws by which the sum of their worths is greatest, and this sum."""
    _need_all(season, liars, budget, stake)
    worths = []
    for draw, wish in season:
        saving = saving_within(Game(shapes_of(draw), liars), wish, stake, budget)
        worths.append([saving.worth_left(0, part) for part in range(budget + 1)])
    # There may be thousands of sums, so they are those of integers.
    scale = 1
    for worth in [one for some in worths for one in some]:
        scale = lcm(scale, worth.bottom)
    whole = [[(one * scale).top for one in some] for some in worths]
    best = None
    for budgets in _dealt_out(budget, len(season)):
        added = sum([some[part] for some, part in zip(whole, budgets)])
        if best is None or best[1] < added:
            best = (budgets, added)
    return best[0], Ratio(best[1], scale)


def _dealt_out(budget, many):
    """Return the ascending list of the tuples of so many budgets whose sum is a budget."""
    rows = [()]
    for _ in range(many - 1):
        rows = [row + (part,) for row in rows for part in range(budget - sum(row) + 1)]
    return [row + (budget - sum(row),) for row in rows]
