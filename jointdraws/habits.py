"""Habits: draws of turns in which some people want something of their own each."""

from jointdraws.checks import are_some_of
from jointdraws.contests import Contest, changed_ways, gets_more, got_by_habit, options_at, settled_ways
from jointdraws.errors import BadHabit, BadLiars, BadWishes, TooMany
from jointdraws.groups import all_sets
from jointdraws.honest import is_wish
from jointdraws.turns import giver_of, need_turns

MOST_HABITS = 2000


def habit_shares(draw, wishes, habit):
    """Return the dict from the names of all ends to their chances if the selfish people keep a habit."""
    _need_wishes(draw, wishes)
    names = draw.ends()
    contest = Contest(draw, sorted(wishes), [{each: 1 if each == name else 0 for each in names} for name in names])
    _need_habit(contest, habit)
    return dict(zip(names, contest.means(got_by_habit(contest, contest.nodes(), habit)[0])))


def got(draw, wishes, habit):
    """Return the dict from the selfish people to the means of their wishes if they keep a habit."""
    contest = _contest_of(draw, wishes)
    _need_habit(contest, habit)
    return dict(zip(sorted(wishes), contest.means(got_by_habit(contest, contest.nodes(), habit)[0])))


def _need_wishes(draw, value):
    """Raise the errors of all functions: BadWishes unless a value is a dict from some people of a draw to wishes."""
    need_turns(draw)
    if not isinstance(value, dict) or not all([person in draw.people() for person in value]):
        raise BadWishes(value)
    if not all([is_wish(draw, wish) for wish in value.values()]):
        raise BadWishes(value)


def _contest_of(draw, wishes):
    """Return the contest of the selfish people, behind the errors of all functions."""
    _need_wishes(draw, wishes)
    people = sorted(wishes)
    return Contest(draw, people, [wishes[person] for person in people])


def _need_habit(contest, value):
    """Raise BadHabit unless a value is a habit."""
    if not contest.is_habit(value):
        raise BadHabit(value)


def _need_few_habits(contest):
    """Raise TooMany if there are too many habits to go through."""
    count = contest.many_habits()
    if count > MOST_HABITS:
        raise TooMany(count)


def is_settled(draw, wishes, value):
    """Tell whether a value is a settled habit."""
    contest = _contest_of(draw, wishes)
    return contest.is_habit(value) and _better_number(contest, sorted(wishes), value) is None


def better_number(draw, wishes, habit):
    """Return the first path at which the giver gets more by another number, and the best one; None if it is settled."""
    contest = _contest_of(draw, wishes)
    _need_habit(contest, habit)
    return _better_number(contest, sorted(wishes), habit)


def _better_number(contest, people, habit):
    """Return the first path at which the giver gets more by another number, and the first best one."""
    nodes = contest.nodes()
    values = got_by_habit(contest, nodes, habit)
    for node in nodes:
        if contest.is_selfish(node):
            at = people.index(giver_of(node.draw))
            options = options_at(node, values, at)
            if options[habit[node.gone]] != max(options):
                return node.gone, options.index(max(options))
    return None


def settled_habits(draw, wishes):
    """Return the list of all settled habits, ascending by their numbers, path by path."""
    contest, nodes, ways = _settled(draw, wishes)
    paths = [node.gone for node in nodes if contest.is_selfish(node)]
    return [dict(zip(paths, numbers)) for numbers, _ in ways]


def settled_bounds(draw, wishes):
    """Return the dict from the selfish people to the least and the greatest mean that comes of settled habits."""
    contest, _, ways = _settled(draw, wishes)
    bounds = {}
    for at, person in enumerate(sorted(wishes)):
        numbers = [values[at] for _, values in ways]
        bounds[person] = tuple(contest.means([min(numbers), max(numbers)]))
    return bounds


def _settled(draw, wishes):
    """Return the contest, its nodes, and all settled ways to give numbers at the turns of selfish people."""
    contest = _contest_of(draw, wishes)
    _need_few_habits(contest)
    nodes = contest.nodes()
    return contest, nodes, settled_ways(contest, nodes, sorted(wishes))


def breakers(draw, wishes, habit):
    """Return the first people who break a habit, None if nobody does."""
    contest = _contest_of(draw, wishes)
    _need_habit(contest, habit)
    _need_few_habits(contest)
    for people in all_sets(sorted(wishes)):
        if _broken_by(contest, sorted(wishes), habit, people) is not None:
            return people
    return None


def broken(draw, wishes, habit, people):
    """Return a habit by which some people break a habit, None if they do not."""
    contest = _contest_of(draw, wishes)
    _need_habit(contest, habit)
    if not are_some_of(people, list(wishes)):
        raise BadLiars(people)
    _need_few_habits(contest)
    return _broken_by(contest, sorted(wishes), habit, people)


def _broken_by(contest, selfish, habit, people):
    """Return a habit by which some of the selfish people break a habit, None if they do not."""
    if len(people) == 0:
        return None
    nodes = contest.nodes()
    before = got_by_habit(contest, nodes, habit)[0]
    places = [selfish.index(person) for person in people]
    for changes, values in changed_ways(contest, nodes, habit, people, places):
        if gets_more(values, before, places):
            told = {path: habit[path] for path in habit}
            for path, number in changes:
                told[path] = number
            return told
    return None
