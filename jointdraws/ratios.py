"""Exact numbers: quotients of two integers."""

from math import gcd

from jointdraws.checks import is_whole
from jointdraws.errors import BadNumber, BadText, ByZero


class Ratio:
    """The quotient of two integers, kept in lowest terms."""

    def __init__(self, top, bottom=1):
        if bottom == 0:
            raise ByZero()
        common = gcd(top, bottom)
        if bottom < 0:
            common = -common
        self._top = top // common
        self._bottom = bottom // common

    @property
    def top(self):
        """The top of the quotient in lowest terms."""
        return self._top

    @property
    def bottom(self):
        """The bottom of the quotient in lowest terms, above 0."""
        return self._bottom

    def __add__(self, other):
        if not is_number(other):
            return NotImplemented
        top, bottom = _parts(other)
        return Ratio(self._top * bottom + top * self._bottom, self._bottom * bottom)

    def __radd__(self, other):
        return self + other

    def __sub__(self, other):
        if not is_number(other):
            return NotImplemented
        top, bottom = _parts(other)
        return Ratio(self._top * bottom - top * self._bottom, self._bottom * bottom)

    def __rsub__(self, other):
        return -self + other

    def __mul__(self, other):
        if not is_number(other):
            return NotImplemented
        top, bottom = _parts(other)
        return Ratio(self._top * top, self._bottom * bottom)

    def __rmul__(self, other):
        return self * other

    def __neg__(self):
        return Ratio(-self._top, self._bottom)

    def __eq__(self, other):
        return is_number(other) and _parts(self) == _parts(other)

    def __str__(self):
        return str(self.text())

    def over(self, number):
        """Return the quotient by a number."""
        top, bottom = _parts(number)
        return Ratio(self._top * bottom, self._bottom * top)

    def below(self, number):
        """Tell whether this is less than a number."""
        top, bottom = _parts(number)
        return self._top * bottom < top * self._bottom

    def text(self):
        """Return the text, such as -2/5 or 3."""
        if self._bottom == 1:
            return str(self._top)
        return f"{self._top}/{self._bottom}"


def is_number(value):
    """Tell whether a value is an integer or a Ratio."""
    return isinstance(value, Ratio) or is_whole(value)


def _parts(number):
    """Return the top and the bottom of a number in lowest terms."""
    if isinstance(number, Ratio):
        return number._top, number._bottom
    return number, 1


def as_ratio(value):
    """Return the Ratio that is equal to a number."""
    if isinstance(value, Ratio):
        return value
    if not is_whole(value):
        raise BadNumber(value)
    return Ratio(value)


def read_ratio(text):
    """Return the Ratio with a text."""
    if not isinstance(text, str):
        raise BadText(text)
    top, slash, bottom = text.partition("/")
    if not slash:
        bottom = "1"
    if not _are_digits(top.removeprefix("-")) or not _are_digits(bottom) or int(bottom) == 0:
        raise BadText(text)
    ratio = Ratio(int(top), int(bottom))
    # Each Ratio has one text only: what reads as a number but is written in another way is none.
    if ratio.text() != text:
        raise BadText(text)
    return ratio


def _are_digits(text):
    """Tell whether a text is made of digits from 0 to 9, at least one."""
    return text.isascii() and text.isdigit()


def total(numbers):
    """Return the sum of a list of numbers, 0 of an empty one."""
    added = Ratio(0)
    for number in numbers:
        added = added + number
    return added


def greatest(numbers):
    """Return the greatest one of a list of at least one number."""
    best = as_ratio(numbers[0])
    for number in numbers:
        if best.below(number):
            best = as_ratio(number)
    return best


def least(numbers):
    """Return the least one of a list of at least one number."""
    best = as_ratio(numbers[0])
    for number in numbers:
        ratio = as_ratio(number)
        if ratio.below(best):
            best = ratio
    return best
