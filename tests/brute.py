"""What the document says of liars, gone through one by one and apart from the program: slow, for small draws."""

import random
from fractions import Fraction
from itertools import chain, combinations, product

from jointdraws.draws import End, Round, read_draw
from jointdraws.ratios import Ratio
from tests.samples import MIXED_TEXT, MORE_TEXT, TURNS_TEXT, UNLIKE_TEXT, fraction

KINDS = ["open", "sealed", "held", "last"]
PEOPLE = ["ann", "bob", "cid", "dan"]


def sets_of(people):
    """All sets, as point 53 orders them."""
    return list(chain.from_iterable(combinations(sorted(people), size) for size in range(len(people) + 1)))


def acting(draw, liars, out):
    return [giver for giver in draw.givers if giver[0] in liars and giver[0] not in out]


def honest_rows(draw, liars):
    givers = [giver for giver in draw.givers if giver[0] not in liars]
    rows = []
    for row in product(*[range(len(shares)) for _, shares, _ in givers]):
        part = Fraction(1)
        for (_, shares, _), number in zip(givers, row):
            part *= fraction(shares[number])
        rows.append((row, part))
    return rows


def counted(draw, liars, out, seen, given, held):
    """The row that counts."""
    seen, given, row = list(seen), list(given), []
    for person, _, stand_in in draw.givers:
        if person not in liars:
            row.append(seen.pop(0))
        elif person in out:
            row.append(stand_in)
        else:
            number = given.pop(0)
            row.append(stand_in if person in held else number)
    return tuple(row)


def next_draw(draw, row):
    rows = list(product(*[range(len(shares)) for _, shares, _ in draw.givers]))
    return draw.draws[rows.index(row)]


def next_out(draw, out, held):
    return tuple(sorted(out + held)) if draw.kind == "last" else out


def helds(draw, liars, out):
    people = [giver[0] for giver in acting(draw, liars, out)]
    return sets_of(people) if draw.kind in ("held", "last") else [()]


def givens(draw, liars, out):
    return list(product(*[range(len(giver[1])) for giver in acting(draw, liars, out)]))


def all_plans(draw, liars, out=()):
    """All plans, in no special order."""
    if isinstance(draw, End):
        return [()]

    def items(seen, given):
        for held in helds(draw, liars, out):
            further = next_draw(draw, counted(draw, liars, out, seen, given, held))
            for then in all_plans(further, liars, next_out(draw, out, held)):
                yield (given, held, then)

    rows = [row for row, _ in honest_rows(draw, liars)]
    if draw.kind == "open":
        ways = [[item for given in givens(draw, liars, out) for item in items(seen, given)] for seen in rows]
        return list(product(*ways))
    return [plan for given in givens(draw, liars, out) for plan in product(*[list(items(seen, given)) for seen in rows])]


def all_runs(draw, liars, plan, out=()):
    """All runs (path, name of the end, holds, chance), in the order of the items."""
    if isinstance(draw, End):
        return [((), draw.name, 0, Fraction(1))]
    found = []
    for (seen, part), (given, held, then) in zip(honest_rows(draw, liars), plan):
        row = counted(draw, liars, out, seen, given, held)
        for path, name, holds, rest in all_runs(next_draw(draw, row), liars, then, next_out(draw, out, held)):
            found.append(((row,) + path, name, holds + len(held), part * rest))
    return found


def outcome(draw, liars, plan):
    """The chances of the names of the ends, and the mean of the number of holds."""
    shares = {name: Fraction(0) for name in draw.ends()}
    held = Fraction(0)
    for _, name, holds, part in all_runs(draw, liars, plan):
        shares[name] += part
        held += part * holds
    return shares, held


def outcomes(draw, liars):
    """All different outcomes of plans, as tuples (chances in the order of the names, mean of holds)."""
    found = set()
    for plan in all_plans(draw, liars):
        shares, held = outcome(draw, liars, plan)
        found.add((tuple(shares.values()), held))
    return sorted(found)


def greatest_score(told, draw, wish, stake=0):
    """The greatest score of some outcomes."""
    numbers = [fraction(wish[name]) for name in draw.ends()]
    return max(sum(part * number for part, number in zip(shares, numbers)) - fraction(stake) * held for shares, held in told)


def best_from(draw, liars, out, wish, stake):
    """The worth from a spot on: the greatest mean by what is done in the round, and what can be got behind it."""
    if isinstance(draw, End):
        return fraction(wish[draw.name])

    def value(seen, given, held):
        further = next_draw(draw, counted(draw, liars, out, seen, given, held))
        return best_from(further, liars, next_out(draw, out, held), wish, stake) - len(held) * fraction(stake)

    def best_held(seen, given):
        return max(value(seen, given, held) for held in helds(draw, liars, out))

    ways = givens(draw, liars, out)
    if draw.kind == "open":
        return sum(part * max(best_held(seen, given) for given in ways) for seen, part in honest_rows(draw, liars))
    return max(sum(part * best_held(seen, given) for seen, part in honest_rows(draw, liars)) for given in ways)


def by_one_round(draw, liars, spot, value, stake):
    """The greatest mean of the values of the next spots that liars can bring about by what they do in one round alone."""
    path, out = spot
    here = draw.at(path)

    def after(seen, given, held):
        row = counted(here, liars, out, seen, given, held)
        return fraction(value[(path + (row,), next_out(here, out, held))]) - len(held) * fraction(stake)

    rows, ways, ends = honest_rows(here, liars), givens(here, liars, out), helds(here, liars, out)
    if here.kind == "open":
        return sum(part * max(after(seen, given, ()) for given in ways) for seen, part in rows)
    return max(sum(part * max(after(seen, given, held) for held in ends) for seen, part in rows) for given in ways)


def all_spots(draw, liars, path=(), out=()):
    """All spots that can be come to, as a dict to the draws there."""
    found = {(path, out): draw}
    if isinstance(draw, Round):
        for (seen, _), given, held in product(honest_rows(draw, liars), givens(draw, liars, out), helds(draw, liars, out)):
            row = counted(draw, liars, out, seen, given, held)
            found.update(all_spots(next_draw(draw, row), liars, path + (row,), next_out(draw, out, held)))
    return found


def random_shares(source, many):
    weights = [source.randrange(1, 5) for _ in range(many)]
    return [Ratio(weight, sum(weights)) for weight in weights]


def random_draw(source, depth, names, people=PEOPLE, kinds=KINDS, most=2):
    """A draw with at most so many givers in a round, mostly of two numbers."""
    if depth == 0 or source.random() < 0.15:
        return End(source.choice(names))
    givers, rows = [], 1
    for person in source.sample(people, source.randrange(1, min(most, len(people)) + 1)):
        many = source.choice([2, 2, 2, 3]) if rows < 3 else 2
        givers.append((person, random_shares(source, many), source.randrange(many)))
        rows *= many
    draws = [random_draw(source, depth - 1, names, people, kinds, most) for _ in range(rows)]
    return Round(source.choice(kinds), givers, draws)


def count_of(draw, liars, out=()):
    """The number of plans, without going through them."""
    if isinstance(draw, End):
        return 1

    def items(seen, given):
        return sum(count_of(next_draw(draw, counted(draw, liars, out, seen, given, held)), liars, next_out(draw, out, held))
                   for held in helds(draw, liars, out))

    ways = givens(draw, liars, out)
    rows = [row for row, _ in honest_rows(draw, liars)]
    whole = 1
    if draw.kind == "open":
        for seen in rows:
            whole *= sum(items(seen, given) for given in ways)
        return whole
    whole = 0
    for given in ways:
        part = 1
        for seen in rows:
            part *= items(seen, given)
        whole += part
    return whole


SMALL_TEXTS = [
    "no", UNLIKE_TEXT, MORE_TEXT, MIXED_TEXT, TURNS_TEXT,
    # Holding back puts out for the next round, where the stand-in counts.
    "last(ann 1/2 1/2 *0, bob 1/2 1/2 *1; no, yes, held(ann 1/3 2/3 *1, cid 1/2 1/2 *0; no, yes, yes, no), "
    "open(ann 1/4 3/4 *0; yes, no))",
    "last(ann 1/2 1/2 *1; open(ann 1/2 1/2 *0; no, yes), sealed(ann 1/2 1/2 *1; maybe, last(ann 1/2 1/2 *0; no, yes)))",
    "sealed(ann 1/2 1/2 *0, cid 2/3 1/3 *0; no, yes, last(bob 1/2 1/2 *1, cid 1/5 4/5 *0; maybe, no, yes, yes), maybe)",
    "held(ann 1/2 1/3 1/6 *1; a, b, open(bob 1/2 1/2 *1, ann 1/2 1/2 *0; a, b, c, a))",
    "open(cid 1/2 1/2 *0; sealed(ann 1/2 1/2 *0, bob 1/2 1/2 *0; no, yes, yes, no), last(bob 2/5 3/5 *0; yes, no))",
    # Two rounds in which holding back is of use, with unlike chances.
    "open(cid 1/2 1/2 *0; held(ann 1/2 1/2 *0, bob 1/2 1/2 *0; no, yes, yes, no), "
    "held(ann 1/2 1/2 *0, bob 1/3 2/3 *0; no, maybe, maybe, no))",
    "last(ann 1/2 1/2 *0, bob 1/4 3/4 *0; no, held(ann 1/2 1/2 *0, cid 1/3 2/3 *1; no, yes, yes, no), yes, maybe)",
]


def small_games(seed, many, names=("no", "yes", "maybe"), most=300, kinds=KINDS):
    """Small draws with liars that have few plans, those of SMALL_TEXTS with all liars for whom they do first."""
    games = []
    for text in SMALL_TEXTS:
        draw = read_draw(text)
        for liars in sets_of(draw.people()):
            if len(draw.ends()) <= len(names) and count_of(draw, liars) <= most:
                games.append((draw, list(liars)))
    source = random.Random(seed)
    while many:
        draw = random_draw(source, source.choice([1, 2, 2, 3]), list(names), kinds=kinds)
        people = draw.people()
        liars = source.sample(people, source.randrange(len(people) + 1))
        if people and 1 < count_of(draw, liars) <= most:
            games.append((draw, liars))
            many -= 1
    return games


def random_number(source):
    return source.choice([0, 1, -1, 2, Ratio(1, 2), Ratio(-2, 3), Ratio(source.randrange(-30, 30), source.randrange(1, 9))])


def random_wish(source, draw):
    return {name: random_number(source) for name in draw.ends()}
