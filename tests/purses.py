"""What the document says of budgets and seasons, gone through one by one and apart from the program."""

from fractions import Fraction
from itertools import product

from jointdraws.draws import End
from tests.brute import all_plans, all_runs, counted, givens, helds, honest_rows, next_draw, next_out
from tests.samples import fraction


def plans_within(draw, liars, budget, out=()):
    """All plans no run of which has more holds."""
    return [plan for plan in all_plans(draw, liars, out) if most_of(draw, liars, plan, out) <= budget]


def most_of(draw, liars, plan, out=()):
    return max(held for _, _, held, _ in all_runs(draw, liars, plan, out))


def score_of(draw, liars, plan, wish, stake):
    return sum(part * (fraction(wish[name]) - fraction(stake) * held) for _, name, held, part in all_runs(draw, liars, plan))


def best_left(draw, liars, out, left, stake, reward):
    """The greatest mean with at most so many holds; the reward tells what an end brings, by its name, out and left."""
    if isinstance(draw, End):
        return reward(draw.name, out, left)

    def value(seen, given, held):
        further = next_draw(draw, counted(draw, liars, out, seen, given, held))
        behind = best_left(further, liars, next_out(draw, out, held), left - len(held), stake, reward)
        return behind - len(held) * fraction(stake)

    def best_held(seen, given):
        return max(value(seen, given, held) for held in helds(draw, liars, out) if len(held) <= left)

    ways, rows = givens(draw, liars, out), honest_rows(draw, liars)
    if draw.kind == "open":
        return sum(part * max(best_held(seen, given) for given in ways) for seen, part in rows)
    return max(sum(part * best_held(seen, given) for seen, part in rows) for given in ways)


def by_wish(wish):
    return lambda name, out, left: fraction(wish[name])


def all_purses(draw, liars, left, path=(), out=()):
    """All purses that can be come to, with the draws there."""
    found = {(path, out, left): draw}
    if not isinstance(draw, End):
        for (seen, _), given, held in product(honest_rows(draw, liars), givens(draw, liars, out), helds(draw, liars, out)):
            if len(held) <= left:
                row = counted(draw, liars, out, seen, given, held)
                further = next_draw(draw, row)
                found.update(all_purses(further, liars, left - len(held), path + (row,), next_out(draw, out, held)))
    return found


def best_of_season(season, liars, stake, place, out, left):
    """What is got from a stand on, by any way to act that keeps the budget, whatever it hangs on."""
    if place == len(season):
        return Fraction(0)
    draw, wish = season[place]

    def reward(name, gone, rest):
        return fraction(wish[name]) + best_of_season(season, liars, stake, place + 1, gone, rest)

    return best_left(draw, liars, out, left, stake, reward)


def all_stands(season, liars, budget):
    found = {(0, (), budget)}
    last = {((), budget)}
    for place, (draw, _) in enumerate(season[:-1]):
        reached = set()
        for out, left in last:
            for (_, gone, rest), here in all_purses(draw, liars, left, (), out).items():
                if isinstance(here, End):
                    reached.add((gone, rest))
        last = reached
        found |= {(place + 1, out, left) for out, left in last}
    return found


def score_of_plans(season, liars, stake, told, place, out, left):
    """What is got from a stand on by plans for a season."""
    if place == len(season):
        return Fraction(0)
    draw, wish = season[place]
    score = Fraction(0)
    for path, name, held, part in all_runs(draw, liars, told[(place, out, left)], out):
        gone = out_at(draw, liars, told[(place, out, left)], path, out)
        score += part * (fraction(wish[name]) - fraction(stake) * held
                         + sum(chance * score_of_plans(season, liars, stake, told, place + 1, one, left - held) for one, chance in gone))
    return score


def out_at(draw, liars, plan, path, out):
    """Who can be out at the end of a path by a plan, with the chances of this if the path is gone."""
    found = {}
    todo = [(draw, plan, (), out, Fraction(1))]
    while todo:
        here, then, gone, known, part = todo.pop()
        if isinstance(here, End):
            if gone == path:
                found[known] = found.get(known, 0) + part
            continue
        for (seen, share), (given, held, after) in zip(honest_rows(here, liars), then):
            row = counted(here, liars, known, seen, given, held)
            if path[:len(gone) + 1] == gone + (row,):
                todo.append((next_draw(here, row), after, gone + (row,), next_out(here, known, held), part * share))
    whole = sum(found.values())
    return [(one, part / whole) for one, part in found.items()]
