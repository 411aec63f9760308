"""Draws: ends and rounds, what they can be asked, and their texts.

Draws may be deeper than calls may be nested, so they are gone through with lists of what is
still to be done, and not by functions that call themselves. The same object may stand in a draw
many times over, so that there may be far more paths than objects; each draw has a mark, by which
it is known that an object has been met.
"""

from jointdraws.checks import LETTERS, is_list, is_name, is_whole
from jointdraws.errors import (
    BadDraws, BadGivers, BadKind, BadName, BadPath, BadShares, BadStandIn, BadText, DrawError, TooMany, Twice)
from jointdraws.ratios import Ratio, is_number, read_ratio, total

KINDS = ("open", "sealed", "held", "last")
MOST_ROWS = 16


class Mark:
    """What tells one object from all others: draws are equal by what they are made of, marks are not."""


class Draw:
    """What ends and rounds have in common; only these two are made.

    The word is the name of an end or the kind of a round. An end has no givers and no further draws.
    """

    def __init__(self, word, givers, draws):
        names = [] if draws else [word]
        people = [person for person, shares, stand_in in givers]
        for further in draws:
            names.extend(further._ends)
            people.extend(further._people)
        self.mark = Mark()
        self._word = word
        self._givers = givers
        self._draws = draws
        self._ends = tuple(sorted(set(names)))
        self._people = tuple(sorted(set(people)))
        self._depth = 1 + max([draw._depth for draw in draws], default=-1)
        self._many = sum([draw._many for draw in draws]) if draws else 1

    def __eq__(self, other):
        return isinstance(other, Draw) and _are_alike(self, other)

    def __len__(self):
        return len(range(self._many))

    def ends(self):
        """Return the ascending list of the names of the ends."""
        return list(self._ends)

    def people(self):
        """Return the ascending list of the people."""
        return list(self._people)

    def rows(self):
        """Return the ascending list of the rows of a round; an end has none."""
        if not self._draws:
            return []
        return rows_of([len(shares) for person, shares, stand_in in self._givers])

    def depth(self):
        """Return the greatest number of rows of a path."""
        return self._depth

    def paths(self):
        """Return the ascending list of the whole paths."""
        whole = []
        waiting = [((), self)]
        while waiting:
            path, draw = waiting.pop()
            if not draw._draws:
                whole.append(path)
            ways = list(zip(draw.rows(), draw._draws))
            for row, further in reversed(ways):
                waiting.append((path + (row,), further))
        return whole

    def at(self, path):
        """Return the draw to which a path leads."""
        if not isinstance(path, tuple):
            raise BadPath(path)
        draw = self
        for row in path:
            if not _is_row(draw._givers, row):
                raise BadPath(path)
            draw = draw._draws[place_of(draw._givers, row)]
        return draw

    def text(self):
        """Return the text of the draw."""
        done = []
        waiting = [self]
        while waiting:
            piece = waiting.pop()
            if isinstance(piece, str):
                done.append(piece)
            else:
                pieces = _pieces_of(piece)
                for inner in reversed(pieces):
                    waiting.append(inner)
        return "".join(done)


class End(Draw):
    """An end, which has a name."""

    def __init__(self, name):
        if not is_name(name):
            raise BadName(name)
        Draw.__init__(self, name, (), ())

    @property
    def name(self):
        """The name of the end."""
        return self._word


class Round(Draw):
    """A round: its kind, its givers, and the further draws in the order of the rows."""

    def __init__(self, kind, givers, draws):
        if not isinstance(kind, str) or kind not in KINDS:
            raise BadKind(kind)
        checked = _checked_givers(givers)
        many = 1
        for _, shares, _ in checked:
            many = many * len(shares)
        if many > MOST_ROWS:
            raise TooMany(many)
        if not is_list(draws) or len(draws) != many or not all([isinstance(draw, Draw) for draw in draws]):
            raise BadDraws(draws)
        Draw.__init__(self, kind, checked, tuple(draws))

    @property
    def kind(self):
        """The word for the kind of the round."""
        return self._word

    @property
    def givers(self):
        """The tuple of the givers: tuples (person, shares, stand-in)."""
        return self._givers

    @property
    def draws(self):
        """The tuple of the further draws."""
        return self._draws


def _checked_givers(givers):
    """Return givers as a tuple of tuples, in which the shares are tuples of Ratios."""
    if not is_list(givers) or not 1 <= len(givers) <= 4:
        raise BadGivers(givers)
    if not all([isinstance(giver, tuple) and len(giver) == 3 for giver in givers]):
        raise BadGivers(givers)
    checked = []
    for person, shares, stand_in in givers:
        if not is_name(person):
            raise BadName(person)
        if person in [giver[0] for giver in checked]:
            raise Twice(person)
        if not _are_shares(shares):
            raise BadShares(shares)
        if not is_whole(stand_in) or not 0 <= stand_in < len(shares):
            raise BadStandIn(stand_in)
        # All shares are Ratios: an integer above 0 leaves nothing for another share.
        checked.append((person, tuple(shares), stand_in))
    return tuple(checked)


def _are_shares(value):
    """Tell whether a value is a list of two to four numbers above 0 whose sum is 1."""
    if not is_list(value) or not 2 <= len(value) <= 4:
        return False
    if not all([is_number(share) for share in value]):
        return False
    nothing = Ratio(0)
    return all([nothing.below(share) for share in value]) and total(value) == 1


def rows_of(counts):
    """Return the ascending list of the rows whose numbers are below the counts."""
    rows = [()]
    for count in counts:
        rows = [row + (number,) for row in rows for number in range(count)]
    return rows


def _is_row(givers, value):
    """Tell whether a value is a row of the givers; without givers there is none."""
    return len(givers) > 0 and are_numbers_of(givers, value)


def are_numbers_of(givers, value):
    """Tell whether a value is a tuple of numbers that the givers can give, one for each."""
    if not isinstance(value, tuple) or len(value) != len(givers):
        return False
    return all([is_whole(number) and 0 <= number < len(giver[1]) for giver, number in zip(givers, value)])


def place_of(givers, row):
    """Return the place that a row has among all rows of the givers."""
    place = 0
    for giver, number in zip(givers, row):
        place = place * len(giver[1]) + number
    return place


def _are_alike(one, other):
    """Tell whether two draws are equal."""
    pairs = [(one, other)]
    met = {}
    while pairs:
        left, right = pairs.pop()
        pair = (left.mark, right.mark)
        if left.mark != right.mark and pair not in met:
            met[pair] = True
            # With equal givers both are ends, or both are rounds with as many further draws.
            if left._word != right._word or left._many != right._many or left._givers != right._givers:
                return False
            for further in zip(left._draws, right._draws):
                pairs.append(further)
    return True


def count_paths(draw):
    """Return the number of the whole paths of a draw; unlike a length, it may have any size."""
    return draw._many


def further_of(draw):
    """Return the tuple of the further draws; an end has none."""
    return draw._draws


def givers_of(draw):
    """Return the list of the people who give in the first round of a draw, in their order; an end has none."""
    return [giver[0] for giver in draw._givers]


def parts_of(draw):
    """Return the list of the draws within a draw, each object once, in the order in which its text tells them."""
    parts = []
    met = {}
    waiting = [draw]
    while waiting:
        here = waiting.pop()
        if here.mark not in met:
            met[here.mark] = True
            parts.append(here)
            for further in reversed(here._draws):
                waiting.append(further)
    return parts


def rounds_of(draw):
    """Return the list of the rounds of a draw, each object once, in the order in which its text tells them."""
    return [here for here in parts_of(draw) if isinstance(here, Round)]


def _pieces_of(draw):
    """Return what the text of a draw consists of: strings, and its further draws."""
    if isinstance(draw, End):
        return [draw.name]
    givers = ", ".join([_giver_text(giver) for giver in draw.givers])
    pieces = [f"{draw.kind}({givers}"]
    gap = "; "
    for further in draw.draws:
        pieces.append(gap)
        pieces.append(further)
        gap = ", "
    pieces.append(")")
    return pieces


def _giver_text(giver):
    """Return the text of a giver."""
    person, shares, stand_in = giver
    return " ".join([person] + [share.text() for share in shares] + [f"*{stand_in}"])


def read_draw(text):
    """Return the draw with a text."""
    if not isinstance(text, str):
        raise BadText(text)
    try:
        return _read_all(text)
    except DrawError:
        raise BadText(text) from None


def _read_all(text):
    """Return the draw with a text; the rounds that are still to be closed are kept in a list."""
    begun = []
    at = 0
    while True:
        word, at = _read_word(text, at)
        if text[at:at + 1] == "(":
            givers, at = _read_givers(text, at + 1)
            begun.append((word, givers, []))
        else:
            draw, at = _close_rounds(begun, End(word), text, at)
            if not begun:
                if at != len(text):
                    raise BadText(text)
                return draw


def _read_word(text, start):
    """Return the word of letters that begins at a place, and the place behind it."""
    at = start
    while at < len(text) and text[at] in LETTERS:
        at = at + 1
    return text[start:at], at


def _read_givers(text, start):
    """Return the givers that are told from a place on, and the place where the further draws begin."""
    stop = text.find("; ", start)
    if stop < 0:
        raise BadText(text)
    return [_read_giver(part) for part in text[start:stop].split(", ")], stop + 2


def _read_giver(text):
    """Return the giver with a text."""
    words = text.split(" ")
    if not words[-1].startswith("*"):
        raise BadText(text)
    stand_in = read_ratio(words[-1].removeprefix("*"))
    if stand_in.bottom != 1:
        raise BadText(text)
    return (words[0], [read_ratio(word) for word in words[1:-1]], stand_in.top)


def _close_rounds(begun, draw, text, start):
    """Put a draw that was read into the last round that was begun, and close all rounds that end behind it.

    Return the draw that was read or closed last, and the place where the next one begins.
    """
    at = start
    while begun:
        kind, givers, draws = begun[-1]
        draws.append(draw)
        if text[at:at + 2] == ", ":
            return draw, at + 2
        if text[at:at + 1] != ")":
            raise BadText(text)
        begun.pop()
        draw = Round(kind, givers, draws)
        at = at + 1
    return draw, at
