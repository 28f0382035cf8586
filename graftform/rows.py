"""Rows of children beside patterns: whether they fit, and a row's machine (points 8 and 12)."""

from graftform.bounds import MACHINE_STATES
from graftform.errors import TooMany


class Lefts:
    """What is left of patterns behind letters, where each answer is reckoned once.

    A letter is here the tuple of those forms of a child that the first pattern speaks of, each once and in
    its order: so children that are the same to the pattern are one letter.
    """

    def __init__(self, pattern):
        self.spoken = pattern.speaks()
        self.known = {}

    def letter(self, forms):
        """The letter of a child with these forms."""
        return tuple([form for form in self.spoken if form in forms])

    def behind(self, pattern, letter):
        """The patterns left of one pattern, by their spellings."""
        key = (pattern.spelling, letter)
        if key not in self.known:
            self.known[key] = {rest.spelling: rest for rest in pattern.left(list(letter))}
        return self.known[key]

    def all_behind(self, patterns, letter):
        """The patterns left of several ones, each once."""
        found = {}
        for pattern in patterns:
            found.update(self.behind(pattern, letter))
        return list(found.values())


def any_bare(patterns):
    """Whether one of the patterns at least is bare."""
    return any(pattern.bare() for pattern in patterns)


def row_fits(pattern, row):
    """Whether a row, a list of lists of forms, fits the pattern."""
    lefts = Lefts(pattern)
    patterns = [pattern]
    for forms in row:
        patterns = lefts.all_behind(patterns, lefts.letter(forms))
    return any_bare(patterns)


class RowStates:
    """The states of a row's machine, numbered as they come."""

    def __init__(self):
        self.states = []
        self.numbers = {}

    def number(self, patterns):
        """The number of the state of these patterns, a new one where it is new; or TooMany."""
        key = tuple(sorted([pattern.spelling for pattern in patterns]))
        if key not in self.numbers:
            if len(self.states) == MACHINE_STATES:
                raise TooMany("a row's machine has 64 states at most")
            self.numbers[key] = len(self.states)
            self.states.append(patterns)
        return self.numbers[key]


def row_machine(pattern, letters):
    """The tuple (steps, ends) of the machine of a pattern and a list of letters, or TooMany."""
    lefts = Lefts(pattern)
    seen = RowStates()
    seen.number([pattern])
    steps = []
    while len(steps) < len(seen.states):
        patterns = seen.states[len(steps)]
        behind = []
        for forms in letters:
            behind.append(seen.number(lefts.all_behind(patterns, lefts.letter(forms))))
        steps.append(tuple(behind))
    return tuple(steps), tuple([any_bare(patterns) for patterns in seen.states])
