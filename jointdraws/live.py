"""Live draws: draws that are being gone through, deed by deed.

How a live draw stands is told by an object that never changes; a deed puts a new one in its place, which
knows the one before. So a deed is taken back, and a whole block of them as well, by going back to such an object.
"""

from jointdraws.acting import Acting
from jointdraws.checks import is_list, is_whole
from jointdraws.draws import End, Round, are_numbers_of, givers_of, place_of
from jointdraws.errors import BadCount, BadPath, BadPlan, NoPerson, NothingToUndo, NotNow
from jointdraws.games import Game, out_after
from jointdraws.needs import need_liars, need_stake, need_wish
from jointdraws.shapes import shapes_of
from jointdraws.walks import walk_of


class Standing:
    """How a live draw stands between two deeds: what of it has been gone, and what was done in the round at hand."""

    def __init__(self, draw, gone, absent, holds):
        self.draw = draw
        self.gone = gone
        self.absent = absent
        self.holds = holds
        self.numbers = {}
        self.holders = ()
        self.deeds = 0
        self.word = None
        self.before = None

    def later(self, word):
        """Return how it stands behind a deed with a word, which is still to be put in."""
        after = Standing(self.draw, self.gone, self.absent, self.holds)
        after.numbers = self.numbers
        after.holders = self.holders
        after.deeds = self.deeds + 1
        after.word = word
        after.before = self
        return after

    def row(self):
        """Return the row of the numbers that count."""
        row = []
        for person, _, stand_in in self.draw.givers:
            counts = person in self.numbers and person not in self.holders
            row.append(self.numbers[person] if counts else stand_in)
        return tuple(row)


class Block:
    """A block whose deeds are taken back at its end: how it stood at its beginning, and the block around it."""

    def __init__(self, start, around):
        self.start = start
        self.around = around


class Trial:
    """What stands behind a with: all deeds that are done in the block are taken back when it ends."""

    def __init__(self, live):
        self._live = live

    def __enter__(self):
        self._live.begin()
        return self._live

    def __exit__(self, kind, value, trace):
        live = self._live
        live._stand = live._block.start
        live._block = live._block.around


class Live:
    """A draw that is being gone through."""

    def __init__(self, draw):
        self._draw = draw
        self._stand = Standing(draw, (), (), 0)
        self._block = None

    def __len__(self):
        return len(range(self._stand.deeds))

    @property
    def now(self):
        """The draw at hand."""
        return self._stand.draw

    def path(self):
        """Return the path of the rows that were closed."""
        return self._stand.gone

    def out(self):
        """Return the ascending list of the people who are out."""
        return list(self._stand.absent)

    def held(self):
        """Return the number of holds by now."""
        return self._stand.holds

    def end(self):
        """Return the name of the end at hand, None for a round."""
        return self._stand.draw.name if isinstance(self._stand.draw, End) else None

    def waiting(self):
        """Return the ascending list of the givers of the round at hand who still have to give."""
        stand = self._stand
        return sorted([person for person in givers_of(stand.draw)
                       if person not in stand.absent and person not in stand.numbers])

    def known(self):
        """Return the dict from givers of the round at hand to their numbers, as far as everybody knows them."""
        stand = self._stand
        if self.waiting() and stand.draw.kind != "open":
            return {}
        return {person: stand.numbers[person] for person in givers_of(stand.draw) if person in stand.numbers}

    def give(self, person, number):
        """Let a giver give a number."""
        stand = self._stand
        place = self._place_of(person)
        if person not in self.waiting():
            raise NotNow(person)
        if not is_whole(number) or not 0 <= number < len(stand.draw.givers[place][1]):
            raise BadCount(number)
        after = stand.later("give")
        after.numbers = {**stand.numbers, person: number}
        self._stand = after

    def _place_of(self, person):
        """Return the place of a giver of the round at hand among its givers."""
        people = givers_of(self._stand.draw)
        if person not in people:
            raise NoPerson(person)
        return people.index(person)

    def hold(self, person):
        """Let a giver hold back."""
        stand = self._stand
        self._place_of(person)
        if stand.draw.kind == "open" or stand.draw.kind == "sealed" or self.waiting():
            raise NotNow(person)
        if person in stand.absent or person in stand.holders:
            raise NotNow(person)
        after = stand.later("hold")
        after.holders = stand.holders + (person,)
        after.holds = stand.holds + 1
        self._stand = after

    def close(self):
        """End the round at hand."""
        stand = self._stand
        if self.waiting() or not isinstance(stand.draw, Round):
            raise NotNow(self.waiting())
        row = stand.row()
        after = stand.later("close")
        after.draw = stand.draw.draws[place_of(stand.draw.givers, row)]
        after.gone = stand.gone + (row,)
        after.absent = out_after(stand.draw, stand.absent, stand.holders)
        after.numbers = {}
        after.holders = ()
        self._stand = after

    def undo(self):
        """Take back the last deed, and return its word."""
        stand = self._stand
        first = 0 if self._block is None else self._block.start.deeds
        if stand.deeds == first:
            raise NothingToUndo()
        self._stand = stand.before
        return stand.word

    def begin(self):
        """Begin a block whose deeds are taken back at its end."""
        self._block = Block(self._stand, self._block)

    def trial(self):
        """Return an object for a with block at whose end all deeds that were done in it are taken back."""
        return Trial(self)

    def tried(self, work):
        """Return what a function returns for the live draw; all that it does is taken back."""
        with self.trial() as live:
            return work(live)

    def worth(self, liars, wish, *, stake=0):
        """Return what liars can still get from the beginning of the round at hand on."""
        need_liars(self._draw, liars)
        need_wish(self._draw, wish)
        need_stake(stake)
        game = Game(shapes_of(self._stand.draw), liars, [self._stand.absent])
        return Acting(game, wish, stake).best()

    def follow(self, liars, plan, numbers):
        """Go through the whole draw: the honest people give some numbers, and the liars act by a plan."""
        if self._stand.deeds > 0:
            raise NotNow(self.waiting())
        need_liars(self._draw, liars)
        if walk_of(Game(shapes_of(self._draw), liars), plan) is None:
            raise BadPlan(plan)
        # If the numbers do not fit, nothing must have been done.
        ahead = Live(self._draw)
        if not _goes_through(ahead, liars, plan, numbers):
            raise BadPath(numbers)
        self._stand = ahead._stand


def _goes_through(live, liars, plan, numbers):
    """Go through a live draw as far as the numbers of the honest people fit, and tell whether all of them did."""
    if not is_list(numbers):
        return False
    then = plan
    for seen in numbers:
        givers = live.now.givers if isinstance(live.now, Round) else ()
        honest = [giver for giver in givers if giver[0] not in liars]
        if not givers or not are_numbers_of(honest, seen):
            return False
        given, held, then = then[place_of(honest, seen)]
        acting = [giver for giver in givers if giver[0] in liars and giver[0] not in live.out()]
        for giver, number in list(zip(honest, seen)) + list(zip(acting, given)):
            live.give(giver[0], number)
        for person in held:
            live.hold(person)
        live.close()
    return live.end() is not None
