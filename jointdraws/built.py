"""Draws that are made of draws."""

from jointdraws.checks import has_just, is_name, is_whole
from jointdraws.draws import KINDS, End, Round, count_paths, rounds_of
from jointdraws.errors import BadCount, BadKind, BadNames, NoEnd, TooMany, Twice
from jointdraws.shapes import rebuilt, same_end, same_round, shapes_of

MOST_TIMES = 3
MOST_PATHS = 4096


def replaced(draw, name, other):
    """Return the draw in which another draw stands in the place of each end with a name."""
    if name not in draw.ends():
        raise NoEnd(name)

    def new_end(end):
        return other if end.name == name else end

    return rebuilt(shapes_of(draw), new_end, same_round)


def with_people(draw, names):
    """Return the draw with other names of the people."""
    _need_new_names(draw.people(), names)
    for here in rounds_of(draw):
        _need_different(here.givers, names)

    def new_round(old, draws):
        return Round(old.kind, [(names[person], shares, stand_in) for person, shares, stand_in in old.givers], draws)

    return rebuilt(shapes_of(draw), same_end, new_round)


def _need_different(givers, names):
    """Raise Twice if two givers of a round get the same name."""
    taken = []
    for person, _, _ in givers:
        if names[person] in taken:
            raise Twice(names[person])
        taken.append(names[person])


def with_ends(draw, names):
    """Return the draw with other names of the ends."""
    _need_new_names(draw.ends(), names)

    def new_end(end):
        return End(names[end.name])

    return rebuilt(shapes_of(draw), new_end, same_round)


def _need_new_names(names, value):
    """Raise BadNames unless a value is a dict from just some names to names."""
    if not has_just(value, names) or not all([is_name(name) for name in value.values()]):
        raise BadNames(value)


def repeated(draw, times):
    """Return the draw in which the draw is gone through so many times, and the name that came most often counts."""
    if not is_whole(times) or not 1 <= times <= MOST_TIMES:
        raise BadCount(times)
    count = 1
    for _ in range(times):
        count = count * count_paths(draw)
    if count > MOST_PATHS:
        raise TooMany(count)
    shapes = shapes_of(draw)
    # For the names that have come, told in ascending order, what comes then; it is known from the last time on.
    then = {}
    for gone in reversed(range(times)):
        for came in _tallies(draw.ends(), gone):
            then[came] = _once_more(shapes, came, times, then)
    return then[()]


def _tallies(names, many):
    """Return the ascending tuples of so many names, each of which may come several times."""
    tallies = [()]
    for _ in range(many):
        tallies = [came + (name,) for came in tallies for name in names if came[-1:] <= (name,)]
    return tallies


def _once_more(shapes, came, times, then):
    """Return the draw in which a draw is gone through behind others, by which some names came."""

    def new_end(end):
        names = tuple(sorted(came + (end.name,)))
        return then[names] if len(names) < times else End(_most_often(names))

    return rebuilt(shapes, new_end, same_round)


def _most_often(names):
    """Return the name that stands most often in an ascending tuple, the first one of several."""
    best = names[0]
    for name in names:
        if names.count(best) < names.count(name):
            best = name
    return best


def of_kind(draw, kind):
    """Return the draw with a kind in all rounds."""
    if not isinstance(kind, str) or kind not in KINDS:
        raise BadKind(kind)

    def new_round(here, draws):
        return Round(kind, here.givers, draws)

    return rebuilt(shapes_of(draw), same_end, new_round)


def lean(draw):
    """Return the draw without the rounds all of whose further draws have become equal."""
    return rebuilt(shapes_of(draw), same_end, _lean_round)


def _lean_round(here, draws):
    """Return the round with other further draws, or one of these if all of them are equal."""
    if all([further == draws[0] for further in draws]):
        return draws[0]
    return same_round(here, draws)
