"""Places in a game that can be come to: spots, purses, and the like, each with the number of its state.

The first one is at the first state. Where one leads is told by a function of it and of the number of its state:
a list of tuples (place, number).
"""


def reached_from(start, nexts_of):
    """Return the dict from all places that can be come to from a start, to the numbers of their states."""
    found = {start: 0}
    waiting = [start]
    while waiting:
        here = waiting.pop()
        for place, number in nexts_of(here, found[here]):
            if place not in found:
                found[place] = number
                waiting.append(place)
    return found


def many_fitting(start, nexts_of, fits):
    """Return the number of all places that can be come to if all of them fit, None if one does not.

    There may be far too many places to look at them all: it ends with the first one that does not fit, by a
    function of it and of the number of its state.
    """
    found = {start: 0}
    waiting = [start]
    while waiting:
        here = waiting.pop()
        if not fits(here, found[here]):
            return None
        for place, number in nexts_of(here, found[here]):
            if place not in found:
                found[place] = number
                waiting.append(place)
    return len(found)
