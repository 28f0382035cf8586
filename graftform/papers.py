"""Whether each document of one form is one of another form, with a paper that shows it (point 26)."""

from graftform.machines import having
from graftform.prices import least, sizes
from graftform.together import pairs_of

# The one form of the machine that seeks a document which has the one form and hasn't the other.
ASTRAY = "astray"


def each_is(one, form, other, goal):
    """A tuple (makings or None, paper), or NoForm, or then TooMany."""
    first = having(one, form)
    second = having(other, goal)
    names, pairs, starts, steps = pairs_of(one, other)
    marks = [1 if first[p] and not second[q] else 0 for p, q in pairs]
    machine = ((ASTRAY,), names, starts, steps, tuple(marks))
    paper = [(p, q, size) for (p, q), size in zip(pairs, sizes(machine))]
    return least(machine, ASTRAY), sorted(paper)
