"""Patterns of rows of children: the five kinds and what is left of them (points 8 to 11)."""

from graftform.bounds import HIGHEST_COUNT
from graftform.errors import NoPattern
from graftform.wholes import is_between


class Pattern:
    """What fits rows of children.

    Each pattern has a spelling: a text that two patterns share just where they are told alike. It stands
    for the pattern in tables, as what is told may be nested too deep for that.
    """

    def told(self):
        """The pattern as a tuple."""
        raise NotImplementedError("each kind of pattern tells itself")

    def bare(self):
        """Whether it fits the row without children."""
        raise NotImplementedError("each kind of pattern tells whether it is bare")

    def left(self, forms):
        """The patterns that are left behind a child with these forms, each once."""
        raise NotImplementedError("each kind of pattern tells what is left")

    def speaks(self):
        """The sorted list of the forms that it speaks of."""
        raise NotImplementedError("each kind of pattern tells its forms")


class One(Pattern):
    """Fits rows of one child that has the form."""

    def __init__(self, form):
        self.form = form
        self.spelling = form

    def told(self):
        return ("one", self.form)

    def bare(self):
        return False

    def left(self, forms):
        return [chain([])] if self.form in forms else []

    def speaks(self):
        return [self.form]


class Chain(Pattern):
    """Fits rows cut into pieces, one behind the other, one for each part."""

    def __init__(self, parts):
        self.parts = tuple(parts)
        self.spelling = "(" + spelled(self.parts) + ")"
        self.fits_none = all(part.bare() for part in self.parts)

    def told(self):
        return ("chain", all_told(self.parts))

    def bare(self):
        return self.fits_none

    def left(self, forms):
        found = []
        for at, part in enumerate(self.parts):
            behind = self.parts[at + 1:]
            for rest in part.left(forms):
                found.append(chain((rest,) + behind))
            if not part.bare():
                break
        return each_once(found)

    def speaks(self):
        return all_forms_spoken(self.parts)


class Choice(Pattern):
    """Fits rows that fit one of the parts at least."""

    def __init__(self, parts):
        self.parts = tuple(parts)
        self.spelling = "[" + spelled(self.parts) + "]"
        self.fits_none = any(part.bare() for part in self.parts)

    def told(self):
        return ("choice", all_told(self.parts))

    def bare(self):
        return self.fits_none

    def left(self, forms):
        return each_once([rest for part in self.parts for rest in part.left(forms)])

    def speaks(self):
        return all_forms_spoken(self.parts)


class Times(Pattern):
    """Fits rows cut into low to high pieces (from low on where high is None) that fit the part."""

    def __init__(self, part, low, high):
        self.part = part
        self.low = low
        self.high = high
        self.spelling = f"{part.spelling}*{low},{told_high(high)}"
        self.fits_none = low == 0 or part.bare()

    def told(self):
        return ("times", self.part.told(), self.low, told_high(self.high))

    def bare(self):
        return self.fits_none

    def left(self, forms):
        fewer = times(self.part, max(self.low - 1, 0), None if self.high is None else self.high - 1)
        # What is left of the part comes each once, and stays so with the same pattern behind all.
        return [chain([rest, fewer]) for rest in self.part.left(forms)]

    def speaks(self):
        return self.part.speaks()


class Mixed(Pattern):
    """Fits rows of which the children can be dealt to the parts so that each part fits what it got."""

    def __init__(self, parts):
        self.parts = tuple(parts)
        self.spelling = "<" + spelled(self.parts) + ">"
        self.fits_none = all(part.bare() for part in self.parts)

    def told(self):
        return ("mixed", all_told(self.parts))

    def bare(self):
        return self.fits_none

    def left(self, forms):
        found = []
        for at, part in enumerate(self.parts):
            ahead = self.parts[:at]
            behind = self.parts[at + 1:]
            for rest in part.left(forms):
                found.append(mixed(ahead + (rest,) + behind))
        return each_once(found)

    def speaks(self):
        return all_forms_spoken(self.parts)


def spelled(parts):
    """The spellings of parts, parted by blanks."""
    return " ".join([part.spelling for part in parts])


def all_told(parts):
    """What is told of parts, in order."""
    return tuple([part.told() for part in parts])


def all_forms_spoken(parts):
    """The sorted list of the forms that parts speak of, each once."""
    return sorted({form for part in parts for form in part.speaks()})


def told_high(high):
    """The higher count as it is told: -1 for None."""
    return -1 if high is None else high


def each_once(patterns):
    """The patterns without those that are told like one ahead of them."""
    found = {}
    for pattern in patterns:
        found.setdefault(pattern.spelling, pattern)
    return list(found.values())


def is_empty(pattern):
    """Whether it is the empty pattern, the chain of no parts."""
    return isinstance(pattern, Chain) and not pattern.parts


def one(form):
    """The pattern of one child with this form."""
    return One(form)


def chain(parts):
    """The chain of a list of patterns."""
    opened = []
    for part in parts:
        opened.extend(part.parts if isinstance(part, Chain) else [part])
    return opened[0] if len(opened) == 1 else Chain(opened)


def choice(parts):
    """The choice of a list of patterns."""
    opened = []
    for part in parts:
        opened.extend(part.parts if isinstance(part, Choice) else [part])
    opened = each_once(opened)
    return opened[0] if len(opened) == 1 else Choice(opened)


def times(part, low=0, high=None):
    """The pattern so many times, or NoPattern, whatever the pattern, for counts that may not be."""
    if not is_between(low, 0, HIGHEST_COUNT):
        raise NoPattern("the lower count is from 0 to 9")
    if high is not None and not is_between(high, low, HIGHEST_COUNT):
        raise NoPattern("the higher count is from the lower one to 9")
    if high == 0 or is_empty(part):
        return chain([])
    if low == 1 and high == 1:
        return part
    return Times(part, low, high)


def mixed(parts):
    """The mix of a list of patterns."""
    opened = []
    for part in parts:
        if isinstance(part, Mixed):
            opened.extend(part.parts)
        elif not is_empty(part):
            opened.append(part)
    if not opened:
        return chain([])
    return opened[0] if len(opened) == 1 else Mixed(opened)


MAKERS = {"chain": chain, "choice": choice, "mixed": mixed}


def pattern_of(told):
    """The pattern of which this is told."""
    kind = told[0]
    if kind == "one":
        return one(told[1])
    if kind == "times":
        return times(pattern_of(told[1]), told[2], None if told[3] == -1 else told[3])
    maker = MAKERS[kind]
    return maker([pattern_of(part) for part in told[1]])
