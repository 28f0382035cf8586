"""The refusals. All stand right under GraftError, so that none is taken for another."""


class GraftError(ValueError):
    """Any refusal."""


class NoPlace(GraftError):
    """A place that the document hasn't, or of which a change can't be done."""

    def __init__(self, place):
        GraftError.__init__(self, "no such place")
        self.place = place


class NoName(GraftError):
    """A thing that is no name, or a name by which nothing is kept."""

    def __init__(self, name):
        GraftError.__init__(self, "no such name")
        self.name = name


class NoDocument(GraftError):
    """A text that tells no document, from the sign `spot` on."""

    def __init__(self, spot):
        GraftError.__init__(self, "no document's text")
        self.spot = spot


class NoPattern(GraftError):
    """What tells no pattern."""


class NoBook(GraftError):
    """Rules that are no book, by the rule with the number `row`."""

    def __init__(self, row):
        GraftError.__init__(self, "no book")
        self.row = row


class NoForm(GraftError):
    """A form that isn't told where it is asked for, or is told already."""

    def __init__(self, form):
        GraftError.__init__(self, "no such form")
        self.form = form


class NoTurner(GraftError):
    """Rules that are no turner, by the rule with the number `row`."""

    def __init__(self, row):
        GraftError.__init__(self, "no turner")
        self.row = row


class NoRow(GraftError):
    """What is no row that a desk can be told."""


class TooLarge(GraftError):
    """A document, or a row of them, that would have `size` places."""

    def __init__(self, size):
        GraftError.__init__(self, "too many places")
        self.size = size


class TooMany(GraftError):
    """More states, pairs, rules or items than the bounds allow."""
