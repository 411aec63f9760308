"""The distinct draws that a draw is made of.

Many draws have equal further draws, and what is to be known of these is worked out once only.
Since the further draws stand first, it is worked out without calls that are nested.
"""

from jointdraws.draws import Round


class Shape:
    """A draw within a draw, and the places of its further draws in the list of the shapes."""

    def __init__(self, draw, nexts):
        self.draw = draw
        self.nexts = nexts


def shapes_of(draw):
    """Return the list of the distinct draws within a draw, each behind its further draws."""
    shapes = []
    places = {}
    done = []
    waiting = [(draw, False)]
    while waiting:
        here, entered = waiting.pop()
        if isinstance(here, Round) and not entered:
            waiting.append((here, True))
            for further in reversed(here.draws):
                waiting.append((further, False))
        else:
            start = len(done) - _many_nexts(here)
            nexts = tuple(done[start:])
            del done[start:]
            mark = _mark_of(here, nexts)
            if mark not in places:
                places[mark] = len(shapes)
                shapes.append(Shape(here, nexts))
            done.append(places[mark])
    return shapes


def _many_nexts(draw):
    """Return the number of the further draws."""
    return len(draw.draws) if isinstance(draw, Round) else 0


def _mark_of(draw, nexts):
    """Return what two draws have in common exactly if they are equal, as a key for a dict."""
    if not isinstance(draw, Round):
        return (draw.name,)
    givers = []
    for person, shares, stand_in in draw.givers:
        givers.append((person, tuple([(share.top, share.bottom) for share in shares]), stand_in))
    return (draw.kind, tuple(givers), nexts)
