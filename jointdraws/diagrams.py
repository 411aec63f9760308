"""Families of sets of names, told by diagrams.

A diagram asks for one name after the other, in an order that is the same for all, whether it is in the set,
leaving out the names that do not matter any more. Diagrams are told by numbers: 0 is the family of no sets, 1
that of all sets, and any other number stands for a question. The same family has the same number always.
"""


class Diagrams:
    """Some diagrams, and what they have in common."""

    def __init__(self, names):
        self._names = list(names)
        self._ranks = {name: rank for rank, name in enumerate(names)}
        # For each diagram the rank of the name that is asked for, and the diagrams for sets without and with it.
        self._questions = [(len(names), 0, 0), (len(names), 1, 1)]
        self._numbers = {}
        self._combined = {}

    def with_name(self, name):
        """Return the family of the sets that have a name."""
        return self._number_for((self._ranks[name], 0, 1))

    def _number_for(self, question):
        """Return the number of the diagram that begins with a question."""
        if question[1] == question[2]:
            return question[1]
        if question not in self._numbers:
            self._numbers[question] = len(self._questions)
            self._questions.append(question)
        return self._numbers[question]

    def in_all(self, families):
        """Return the family of the sets that are in all of some families."""
        return self._combined_by(0, families)

    def in_some(self, families):
        """Return the family of the sets that are in at least one of some families."""
        return self._combined_by(1, families)

    def _combined_by(self, strong, families):
        """Return what comes of families, where a strong one (0 for in all, 1 for in some) leaves nothing to ask."""
        joined = families[0]
        for family in families[1:]:
            joined = self._pair_by(strong, joined, family)
        return joined

    def _pair_by(self, strong, one, other):
        """Return what comes of two families; those that are to be combined first are kept in a list."""
        waiting = [(one, other)]
        while waiting:
            one, other = waiting[-1]
            simple = _simple_pair(strong, one, other)
            key = (strong, min(one, other), max(one, other))
            if simple is None and key not in self._combined:
                rank = min(self._questions[one][0], self._questions[other][0])
                parts = [(self._part_of(one, rank, at), self._part_of(other, rank, at)) for at in (1, 2)]
                done = [self._told(strong, part) for part in parts]
                if None in done:
                    waiting.extend(parts)
                    continue
                self._combined[key] = self._number_for((rank, done[0], done[1]))
            waiting.pop()
        return self._told(strong, (one, other))

    def _part_of(self, number, rank, at):
        """Return the diagram that is left behind the question for a rank, at 1 without the name and at 2 with it."""
        question = self._questions[number]
        return question[at] if question[0] == rank else number

    def _told(self, strong, pair):
        """Return what comes of two families, None if it is not known yet."""
        one, other = pair
        simple = _simple_pair(strong, one, other)
        return self._combined.get((strong, min(one, other), max(one, other))) if simple is None else simple

    def set_within(self, one, other):
        """Return the ascending tuple of the names of a set that is in just one of two different families."""
        names = []
        while one > 1 or other > 1:
            rank = min(self._questions[one][0], self._questions[other][0])
            at = 1 if self._part_of(one, rank, 1) != self._part_of(other, rank, 1) else 2
            if at == 2:
                names.append(self._names[rank])
            one, other = self._part_of(one, rank, at), self._part_of(other, rank, at)
        return tuple(sorted(names))


def _simple_pair(strong, one, other):
    """Return what comes of two families if it takes no question, None if it takes one."""
    if one == strong or other == strong:
        return strong
    if one == 1 - strong or one == other:
        return other
    if other == 1 - strong:
        return one
    return None
