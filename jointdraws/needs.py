"""What functions need of their arguments: each of these raises the error that tells what is wrong."""

from jointdraws.checks import are_some_of, has_just, is_whole
from jointdraws.errors import (
    BadBudget, BadCount, BadLiars, BadNames, BadNumber, BadPrices, BadStake, BadWish, TooMany, UnlikeEnds)
from jointdraws.honest import is_wish
from jointdraws.ratios import as_ratio, is_number

MOST_NAMES = 3
MOST_BUDGET = 30


def is_amount(value):
    """Tell whether a value is a number from 0 on."""
    return is_number(value) and not as_ratio(value).below(0)


def need_liars(draw, value):
    """Raise BadLiars unless a value is a list of liars of a draw."""
    if not are_some_of(value, draw.people()):
        raise BadLiars(value)


def need_leagues(draw, first, second):
    """Raise BadLiars unless two values are lists of liars of a draw that have nobody in common."""
    need_liars(draw, first)
    need_liars(draw, second)
    if any([person in first for person in second]):
        raise BadLiars(second)


def need_like_ends(one, other):
    """Raise UnlikeEnds unless two draws have the same names of ends."""
    if one.ends() != other.ends():
        raise UnlikeEnds()


def need_common_liars(one, other, value):
    """Raise UnlikeEnds unless two draws have the same names of ends, and BadLiars unless a value is liars of both."""
    need_like_ends(one, other)
    need_liars(one, value)
    need_liars(other, value)


def need_wish(draw, value):
    """Raise BadWish unless a value is a wish for a draw."""
    if not is_wish(draw, value):
        raise BadWish(value)


def need_stake(value):
    """Raise BadStake unless a value is a stake."""
    if not is_amount(value):
        raise BadStake(value)


def need_budget(value):
    """Raise BadBudget unless a value is a budget."""
    if not is_whole(value) or not 0 <= value <= MOST_BUDGET:
        raise BadBudget(value)


def need_number(value):
    """Raise BadNumber unless a value is a number."""
    if not is_number(value):
        raise BadNumber(value)


def need_limit(value):
    """Raise BadNumber unless a value is a number from 0 on."""
    if not is_amount(value):
        raise BadNumber(value)


def need_count(value, most):
    """Raise BadCount unless a value is an integer from 0 to the most."""
    if not is_whole(value) or not 0 <= value <= most:
        raise BadCount(value)


def need_names(draw, value):
    """Raise BadNames unless a value is a list of different names of ends of a draw."""
    if not are_some_of(value, draw.ends()):
        raise BadNames(value)


def need_prices(draw, value):
    """Raise BadPrices unless a value is a dict from just the people of a draw to numbers from 0 on."""
    if not has_just(value, draw.people()) or not all([is_amount(price) for price in value.values()]):
        raise BadPrices(value)


def need_few_names(draw):
    """Raise TooMany if a draw has more names of ends than corners are told for."""
    many = len(draw.ends())
    if many > MOST_NAMES:
        raise TooMany(many)
