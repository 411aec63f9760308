"""The errors of the package. Each one keeps the very values that it is created with."""


class DrawError(ValueError):
    """What all errors of the package have in common."""


class ByZero(DrawError):
    """A number was to be divided by 0."""


class BadNumber(DrawError):
    """The value is not a number, or not one from 0 on where only these are allowed."""

    def __init__(self, given):
        self.given = given


class BadText(DrawError):
    """The value is not the text of what was to be read."""

    def __init__(self, given):
        self.given = given


class BadName(DrawError):
    """The value is not a name."""

    def __init__(self, given):
        self.given = given


class BadKind(DrawError):
    """The value is not a word for a kind of rounds."""

    def __init__(self, given):
        self.given = given


class BadGivers(DrawError):
    """The value is not a list of givers."""

    def __init__(self, given):
        self.given = given


class Twice(DrawError):
    """A person gives twice in the same round."""

    def __init__(self, person):
        self.person = person


class BadShares(DrawError):
    """The value is not a list of shares."""

    def __init__(self, given):
        self.given = given


class BadStandIn(DrawError):
    """The value is not a number that the giver can give."""

    def __init__(self, given):
        self.given = given


class BadDraws(DrawError):
    """The value is not a list of as many draws as there are rows."""

    def __init__(self, given):
        self.given = given


class TooMany(DrawError):
    """There are more of something than can be dealt with."""

    def __init__(self, count):
        self.count = count


class BadPath(DrawError):
    """The value is not a path of the draw."""

    def __init__(self, given):
        self.given = given


class BadWish(DrawError):
    """The value is not a wish for the draw."""

    def __init__(self, given):
        self.given = given


class BadStake(DrawError):
    """The value is not a stake."""

    def __init__(self, given):
        self.given = given


class NoEnd(DrawError):
    """The value is not the name of an end of the draw."""

    def __init__(self, given):
        self.given = given


class NoPerson(DrawError):
    """The value is not a person who is asked for."""

    def __init__(self, given):
        self.given = given


class BadLiars(DrawError):
    """The value is not a list of liars."""

    def __init__(self, given):
        self.given = given


class BadPlan(DrawError):
    """The value is not a plan."""

    def __init__(self, given):
        self.given = given


class BadCount(DrawError):
    """The value is not an integer in the bounds."""

    def __init__(self, given):
        self.given = given


class BadCorner(DrawError):
    """The value does not give each name of an end its chance."""

    def __init__(self, given):
        self.given = given


class BadFamily(DrawError):
    """The value is not a list of sets of the people."""

    def __init__(self, given):
        self.given = given


class BadBounds(DrawError):
    """The value does not give bounds for sets of people."""

    def __init__(self, given):
        self.given = given


class BadPrices(DrawError):
    """The value does not give prices."""

    def __init__(self, given):
        self.given = given


class BadNames(DrawError):
    """The value does not tell names as it should."""

    def __init__(self, given):
        self.given = given


class NotTurns(DrawError):
    """A draw is not one of turns."""


class UnlikeEnds(DrawError):
    """Two draws do not have the same names of ends."""


class NotNow(DrawError):
    """A live draw is not at a point for this deed."""

    def __init__(self, given):
        self.given = given


class NothingToUndo(DrawError):
    """A live draw has no deed that can be taken back."""


class BadBudget(DrawError):
    """The value is not a budget."""

    def __init__(self, given):
        self.given = given


class BadMixture(DrawError):
    """The value is not a mixture of plans."""

    def __init__(self, given):
        self.given = given


class BadSeason(DrawError):
    """The value is not a season."""

    def __init__(self, given):
        self.given = given


class BadPlans(DrawError):
    """The value is not plans for a season."""

    def __init__(self, given):
        self.given = given


class BadGuard(DrawError):
    """The value is not a guard."""

    def __init__(self, given):
        self.given = given


class BadWishes(DrawError):
    """The value does not give people wishes of their own."""

    def __init__(self, given):
        self.given = given


class BadHabit(DrawError):
    """The value is not a habit."""

    def __init__(self, given):
        self.given = given
