"""Stakes: the worths with all of them at once, and the least ones with which liars do not gain.

With a plan the score falls with the stake as a line does: it is the mean of the wish, less the stake
multiplied by the mean of the number of holds. The worth is the greatest of these lines.
"""

from jointdraws.acting import Acting
from jointdraws.games import Game
from jointdraws.groups import sets_up_to
from jointdraws.honest import honest_mean, honest_shares
from jointdraws.needs import need_common_liars, need_count, need_liars, need_limit, need_wish
from jointdraws.ratios import Ratio, greatest, least
from jointdraws.shapes import shapes_of


class Line:
    """The score, with all stakes, of a plan that is best with one stake."""

    def __init__(self, game, wish, stake):
        self._acting = Acting(game, wish, stake)
        self.holds = self._acting.mean_held()
        self.mean = self._acting.best() + self.holds * stake

    def at(self, stake):
        """Return the score with a stake."""
        return self.mean - self.holds * stake

    def meets(self, number):
        """Return the stake with which the score is a number; there must be holds."""
        return (self.mean - number).over(self.holds)

    def crosses(self, other):
        """Return the stake with which the score is that of another line, which must not have equally many holds."""
        return (self.mean - other.mean).over(self.holds - other.holds)

    def plan(self):
        """Return the plan."""
        return self._acting.plan()


def pieces(draw, liars, wish):
    """Return the straight pieces of the worth: tuples (start, worth, slope), ascending by the start."""
    need_liars(draw, liars)
    need_wish(draw, wish)
    return [(start, line.at(start), -line.holds) for start, line in best_lines(draw, liars, wish)]


def piece_plans(draw, liars, wish):
    """Return a plan for each of the pieces."""
    need_liars(draw, liars)
    need_wish(draw, wish)
    return [line.plan() for _, line in best_lines(draw, liars, wish)]


def best_lines(draw, liars, wish):
    """Return the lines that the worth consists of, as tuples (start, line), ascending by the start."""
    kept = []
    for line in _found_lines(Game(shapes_of(draw), liars), wish):
        # What begins only where the next line is as great already is nowhere the greatest by itself.
        while kept and not kept[-1][0].below(kept[-1][1].crosses(line)):
            kept.pop()
        start = kept[-1][1].crosses(line) if kept else Ratio(0)
        kept.append((start, line))
    return kept


def _found_lines(game, wish):
    """Return lines of best plans, those with more holds first, with all that the worth consists of."""
    found = [Line(game, wish, 0)]
    if found[0].holds == 0:
        return found
    ahead = [Line(game, wish, _stake_without_holds(game, wish))]
    while ahead:
        steep = found[-1]
        flat = ahead[-1]
        stake = steep.crosses(flat)
        line = Line(game, wish, stake)
        if flat.at(stake).below(line.at(stake)):
            ahead.append(line)
        else:
            found.append(ahead.pop())
    return found


def _stake_without_holds(game, wish):
    """Return a stake with which no best plan has holds."""
    numbers = list(wish.values())
    # If there are holds, the mean of their number is at least 1 divided by the unit.
    return (greatest(numbers) - least(numbers) + 1) * game.states[0].unit


def least_stake(draw, liars, wish, *, limit=0):
    """Return the least stake with which the gain is at most the limit, None if there is none."""
    return _least_keeping(draw, liars, wish, limit)[0]


def paying_plan(draw, liars, wish, *, limit=0):
    """Return a plan without holds that gains more than the limit, None if a stake keeps to the limit."""
    stake, line = _least_keeping(draw, liars, wish, limit)
    return line.plan() if stake is None else None


def _least_keeping(draw, liars, wish, limit):
    """Return the least stake that keeps to the limit, None if there is none, and the line that comes last."""
    need_liars(draw, liars)
    need_wish(draw, wish)
    need_limit(limit)
    return _least_from(Game(shapes_of(draw), liars), wish, honest_mean(draw, wish) + limit, Ratio(0))


def _least_from(game, wish, bound, start):
    """Return the least stake from a start on with which the worth is at most a bound, and a best line there.

    If there is none, return None and a line without holds, which is above the bound.
    """
    stake = start
    line = Line(game, wish, stake)
    while bound.below(line.at(stake)):
        if line.holds == 0:
            return None, line
        # With lesser stakes this line is above the bound, and so is the worth.
        stake = line.meets(bound)
        line = Line(game, wish, stake)
    return stake, line


def safe_stake(draw, most, *, limit=0):
    """Return the greatest one of the least stakes for sets of at most so many people, with the set and the name."""
    people = draw.people()
    need_count(most, len(people))
    need_limit(limit)
    shares = honest_shares(draw)
    shapes = shapes_of(draw)
    worst = (Ratio(0), (), draw.ends()[0])
    for liars in sets_up_to(people, most):
        game = Game(shapes, liars)
        for name in shares:
            wish = {each: 1 if each == name else 0 for each in shares}
            # Lesser stakes than the greatest one by now are of no interest.
            stake, _ = _least_from(game, wish, shares[name] + limit, worst[0])
            if stake is None:
                return (None, liars, name)
            if worst[0].below(stake):
                worst = (stake, liars, name)
    return worst


def same_worths(one, other, liars, wish):
    """Tell whether two draws have the same worth with every stake."""
    need_common_liars(one, other, liars)
    need_wish(one, wish)
    return pieces(one, liars, wish) == pieces(other, liars, wish)


def higher_stake(one, other, liars, wish):
    """Return a stake with which the worth of the one draw is above that of the other one, None if there is none."""
    need_common_liars(one, other, liars)
    need_wish(one, wish)
    mine = best_lines(one, liars, wish)
    yours = best_lines(other, liars, wish)
    # Between the starts of pieces the difference goes straight, and behind all of them it stays.
    for stake, _ in mine + yours:
        if _greatest_at(yours, stake).below(_greatest_at(mine, stake)):
            return stake
    return None


def _greatest_at(lines, stake):
    """Return the worth with a stake."""
    return greatest([line.at(stake) for _, line in lines])
