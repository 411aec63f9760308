"""The distinct draws that a draw is made of.

Many draws have equal further draws, and what is to be known of these is worked out once only.
Since the further draws stand first, it is worked out without calls that are nested.
"""

from jointdraws.draws import End, Round, further_of


class Shape:
    """A draw within a draw, and the places of its further draws in the list of the shapes."""

    def __init__(self, draw, nexts):
        self.draw = draw
        self.nexts = nexts


def shapes_of(draw):
    """Return the list of the distinct draws within a draw, each behind its further draws."""
    shapes = []
    places = {}
    # The places of all objects that were met, of which several may be equal draws.
    known = {}
    waiting = [draw]
    while waiting:
        here = waiting[-1]
        ahead = [further for further in further_of(here) if further.mark not in known]
        if ahead:
            waiting.append(ahead[0])
        else:
            waiting.pop()
            nexts = tuple([known[further.mark] for further in further_of(here)])
            key = _key_of(here, nexts)
            if key not in places:
                places[key] = len(shapes)
                shapes.append(Shape(here, nexts))
            known[here.mark] = places[key]
    return shapes


def _key_of(draw, nexts):
    """Return what two draws have in common exactly if they are equal, as a key for a dict."""
    if not isinstance(draw, Round):
        return (draw.name,)
    givers = []
    for person, shares, stand_in in draw.givers:
        givers.append((person, tuple([(share.top, share.bottom) for share in shares]), stand_in))
    return (draw.kind, tuple(givers), nexts)


def rebuilt(shapes, new_end, new_round):
    """Return a draw, given by its shapes, in which functions make something else of ends and of rounds."""
    done = []
    for shape in shapes:
        if isinstance(shape.draw, End):
            done.append(new_end(shape.draw))
        else:
            done.append(new_round(shape.draw, [done[place] for place in shape.nexts]))
    return done[-1]


def same_end(end):
    """Return the end as it is."""
    return end


def same_round(here, draws):
    """Return the round with other further draws."""
    return Round(here.kind, here.givers, draws)
