"""Rows of children beside patterns: whether they fit, and a row's machine (points 8 and 12)."""

from graftform.bounds import MACHINE_STATES
from graftform.errors import TooMany


class LeftSets:
    """The sets of patterns that are left of one pattern behind rows of children, numbered as they come.

    Set 0 is the pattern alone. A letter is here the tuple of those forms of a child that the pattern speaks
    of, each once and in its order: so children that are the same to the pattern are one letter. What is left
    of a pattern, or of a set, behind a letter is reckoned once.
    """

    def __init__(self, pattern):
        self.spoken = pattern.speaks()
        self.sets = []
        self.ends = []
        self.numbers = {}
        self.known = {}
        self.follows = {}
        self.number([pattern])

    def letter(self, forms):
        """The letter of a child with these forms."""
        return tuple([form for form in self.spoken if form in forms])

    def number(self, patterns):
        """The number of the set of these patterns, no two of them told alike."""
        key = tuple(sorted([pattern.spelling for pattern in patterns]))
        if key not in self.numbers:
            self.numbers[key] = len(self.sets)
            self.sets.append(patterns)
            self.ends.append(any(pattern.bare() for pattern in patterns))
        return self.numbers[key]

    def left_of(self, pattern, letter):
        """The patterns left of one pattern, by their spellings."""
        key = (pattern.spelling, letter)
        if key not in self.known:
            self.known[key] = {rest.spelling: rest for rest in pattern.left(list(letter))}
        return self.known[key]

    def behind(self, number, letter):
        """The number of the set that is left of a set."""
        key = (number, letter)
        if key not in self.follows:
            found = {}
            for pattern in self.sets[number]:
                found.update(self.left_of(pattern, letter))
            self.follows[key] = self.number(list(found.values()))
        return self.follows[key]

    def line(self, row):
        """The numbers of the sets ahead of a row of lists of forms, behind its first child, and so on."""
        numbers = [0]
        for forms in row:
            numbers.append(self.behind(numbers[-1], self.letter(forms)))
        return numbers

    def fitted(self, row):
        """Whether the row fits the pattern."""
        return self.ends[self.line(row)[-1]]


def row_fits(pattern, row):
    """Whether a row, a list of lists of forms, fits the pattern."""
    return LeftSets(pattern).fitted(row)


def row_machine(pattern, letters):
    """The tuple (steps, ends) of the machine of a pattern and a list of letters, or TooMany."""
    left = LeftSets(pattern)
    steps = []
    while len(steps) < len(left.sets):
        behind = []
        for forms in letters:
            behind.append(left.behind(len(steps), left.letter(forms)))
            if len(left.sets) > MACHINE_STATES:
                raise TooMany("a row's machine has 64 states at most")
        steps.append(tuple(behind))
    return tuple(steps), tuple(left.ends)
