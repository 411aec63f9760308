"""Draws spread out, so that rounds of some kinds can be changed where they stand in the text, each by itself."""

from jointdraws.draws import Round


class Spread:
    """A draw, given by its shapes, whose rounds of some kinds are told in the order in which they stand in its text."""

    def __init__(self, shapes, kinds):
        self._kinds = kinds
        has_some = []
        for shape in shapes:
            inner = any([has_some[place] for place in shape.nexts])
            has_some.append(inner or isinstance(shape.draw, Round) and shape.draw.kind in kinds)
        # Draws without such rounds are kept whole: there may be far too many paths in them.
        self._parts = []
        waiting = [len(shapes) - 1]
        while waiting:
            place = waiting.pop()
            self._parts.append((shapes[place].draw, has_some[place]))
            if has_some[place]:
                for further in reversed(shapes[place].nexts):
                    waiting.append(further)

    def rounds(self):
        """Return the list of the rounds of these kinds."""
        return [draw for draw, spread in self._parts if spread and draw.kind in self._kinds]

    def changed(self, words, givers):
        """Return the draw in which these rounds have other kinds and other givers, told in lists, one for each."""
        ahead = list(zip(words, givers))
        done = []
        # From the last part on, the further draws of a round have been done ahead of it, the first one last.
        for draw, spread in reversed(self._parts):
            if not spread:
                done.append(draw)
            else:
                word, people = ahead.pop() if draw.kind in self._kinds else (draw.kind, draw.givers)
                done.append(Round(word, people, [done.pop() for _ in draw.draws]))
        return done[-1]
