"""What the document says of two leagues, gone through one by one and apart from the program."""

from fractions import Fraction
from itertools import product

from jointdraws.draws import End
from tests.brute import counted, givens, helds, honest_rows, next_draw, next_out
from tests.samples import fraction


def part_given(draw, both, out, league, given):
    people = [giver[0] for giver in draw.givers if giver[0] in both and giver[0] not in out]
    return tuple(number for person, number in zip(people, given) if person in league)


def part_held(league, held):
    return tuple(person for person in held if person in league)


def numbers_of(draw, both, out, seen, given):
    """The row of all numbers, with the stand-in for those who are out."""
    return counted(draw, both, out, seen, given, ())


def active(draw, league, out):
    return [giver[0] for giver in draw.givers if giver[0] in league and giver[0] not in out]


def all_moments(draw, league, other, path=(), out=()):
    """All moments of a league, as a dict to the lists of the choices there."""
    if isinstance(draw, End):
        return {}
    both = list(league) + list(other)
    found = {}
    for (seen, _), given, held in product(honest_rows(draw, both), givens(draw, both, out), helds(draw, both, out)):
        if active(draw, league, out):
            key = ("give", path, out, seen if draw.kind == "open" else ())
            found.setdefault(key, set()).add(part_given(draw, both, out, league, given))
            if draw.kind in ("held", "last"):
                key = ("hold", path, out, numbers_of(draw, both, out, seen, given))
                found.setdefault(key, set()).add(part_held(league, held))
        row = counted(draw, both, out, seen, given, held)
        for key, choices in all_moments(next_draw(draw, row), league, other, path + (row,), next_out(draw, out, held)).items():
            found.setdefault(key, set()).update(choices)
    return found


def score_of(draw, first, second, wish, stake, mine, yours, path=(), out=()):
    """The score if both leagues act by guards."""
    if isinstance(draw, End):
        return fraction(wish[draw.name])
    both = list(first) + list(second)
    score = Fraction(0)
    for (seen, part), given, held in product(honest_rows(draw, both), givens(draw, both, out), helds(draw, both, out)):
        for league, guard in ((first, mine), (second, yours)):
            if active(draw, league, out):
                key = ("give", path, out, seen if draw.kind == "open" else ())
                part *= chance_of(guard[key], part_given(draw, both, out, league, given))
                if draw.kind in ("held", "last"):
                    key = ("hold", path, out, numbers_of(draw, both, out, seen, given))
                    part *= chance_of(guard[key], part_held(league, held))
        if part:
            row = counted(draw, both, out, seen, given, held)
            further = score_of(next_draw(draw, row), first, second, wish, stake, mine, yours, path + (row,), next_out(draw, out, held))
            holds = len(part_held(first, held)) - len(part_held(second, held))
            score += part * (further - fraction(stake) * holds)
    return score


def chance_of(mix, choice):
    return sum([fraction(part) for one, part in mix if one == choice], Fraction(0))


def least_by_guard(draw, first, second, wish, stake, guard, path=(), out=()):
    """The least score from a spot on if the first league acts by a guard: the second one does the best at each moment."""
    if isinstance(draw, End):
        return fraction(wish[draw.name])
    both = list(first) + list(second)

    def behind(seen, given, held):
        row = counted(draw, both, out, seen, given, held)
        holds = len(part_held(first, held)) - len(part_held(second, held))
        return least_by_guard(next_draw(draw, row), first, second, wish, stake, guard, path + (row,), next_out(draw, out, held)) \
            - fraction(stake) * holds

    def by_holds(seen, given):
        if draw.kind in ("open", "sealed"):
            return behind(seen, given, ())
        key = ("hold", path, out, numbers_of(draw, both, out, seen, given))
        scores = {}
        for held in helds(draw, both, out):
            part = chance_of(guard[key], part_held(first, held)) if active(draw, first, out) else 1
            yours = part_held(second, held)
            scores[yours] = scores.get(yours, 0) + (part * behind(seen, given, held) if part else 0)
        return min(scores.values())

    def by_numbers(rows, key):
        scores = {}
        for given in givens(draw, both, out):
            part = chance_of(guard[key], part_given(draw, both, out, first, given)) if active(draw, first, out) else 1
            yours = part_given(draw, both, out, second, given)
            mean = sum(share * by_holds(seen, given) for seen, share in rows) if part else 0
            scores[yours] = scores.get(yours, 0) + part * mean
        return min(scores.values())

    rows = honest_rows(draw, both)
    if draw.kind == "open":
        return sum(share * by_numbers([(seen, 1)], ("give", path, out, seen)) for seen, share in rows)
    return by_numbers(rows, ("give", path, out, ()))


def random_guard(source, draw, league, other, many=3):
    """A guard with chances of all kinds."""
    from jointdraws.ratios import Ratio
    guard = {}
    for moment, choices in all_moments(draw, league, other).items():
        taken = sorted(source.sample(sorted(choices), source.randrange(1, min(many, len(choices)) + 1)))
        weights = [source.randrange(1, 4) for _ in taken]
        guard[moment] = [(choice, Ratio(weight, sum(weights))) for choice, weight in zip(taken, weights)]
    return guard
